/-
  VlName, ExNamed, ExCons.
-/
import Derived.Test.YtlmmfhbdebfgkaaGreatDoorWTyNodeQ
import Derived.Test.YtlmmfhbdebfgkaaGreatDoorWVlKeyQ
import Derived.Test.YtlmmfhbdebfgkaaGreatDoorWExResQ
import Derived.Laws.RangeAny
import Derived.Lib.OthersKept
import Derived.Deep.MidRow
set_option linter.unusedVariables false
set_option linter.unusedSimpArgs false
set_option maxRecDepth 100000
set_option maxHeartbeats 8000000
namespace Go.Proofs.YtlmmfhbdebfgkaaGreatDoor.Va
open Go.RowKit
def letR (c : Int) : Bool := (decide (65 ≤ c) && decide (c ≤ 90)) || (decide (97 ≤ c) && decide (c ≤ 122))
def digR (c : Int) : Bool := decide (48 ≤ c) && decide (c ≤ 57)
theorem letter_any (c : Int) (w : World) : Calls Tryz.prog 110 #[.int .i32 c] w fun e w' => e = .returned (.bool (letR c)) ∧ w = w' := by
  by_cases h1 : 65 ≤ c
  · by_cases h2 : c ≤ 90
    · have HR := Lib.hid (show true = letR c by unfold letR; simp [h1, h2])
      go_enter Tryz.func110, Tryz.ntmps110
      go_wp2_with fail
      go_ret
      exact ⟨ret_b HR.out, rfl⟩
    · by_cases h3 : 97 ≤ c
      · by_cases h4 : c ≤ 122
        · have HR := Lib.hid (show true = letR c by unfold letR; simp [h3, h4])
          go_enter Tryz.func110, Tryz.ntmps110
          go_wp2_with fail
          go_ret
          exact ⟨ret_b HR.out, rfl⟩
        · have HR := Lib.hid (show false = letR c by unfold letR; simp [h2, h4])
          go_enter Tryz.func110, Tryz.ntmps110
          go_wp2_with fail
          go_ret
          exact ⟨ret_b HR.out, rfl⟩
      · have HR := Lib.hid (show false = letR c by unfold letR; simp [h2, h3])
        go_enter Tryz.func110, Tryz.ntmps110
        go_wp2_with fail
        go_ret
        exact ⟨ret_b HR.out, rfl⟩
  · have h3 : ¬ 97 ≤ c := by omega
    have HR := Lib.hid (show false = letR c by unfold letR; simp [h1, h3])
    go_enter Tryz.func110, Tryz.ntmps110
    go_wp2_with fail
    go_ret
    exact ⟨ret_b HR.out, rfl⟩
theorem digit_any (c : Int) (w : World) : Calls Tryz.prog 111 #[.int .i32 c] w fun e w' => e = .returned (.bool (digR c)) ∧ w = w' := by
  by_cases h1 : 48 ≤ c
  · by_cases h2 : c ≤ 57
    · have HR := Lib.hid (show true = digR c by unfold digR; simp [h1, h2])
      go_enter Tryz.func111, Tryz.ntmps111
      go_wp2_with fail
      go_ret
      exact ⟨ret_b HR.out, rfl⟩
    · have HR := Lib.hid (show false = digR c by unfold digR; simp [h2])
      go_enter Tryz.func111, Tryz.ntmps111
      go_wp2_with fail
      go_ret
      exact ⟨ret_b HR.out, rfl⟩
  · have HR := Lib.hid (show false = digR c by unfold digR; simp [h1])
    go_enter Tryz.func111, Tryz.ntmps111
    go_wp2_with fail
    go_ret
    exact ⟨ret_b HR.out, rfl⟩
theorem letR_byte (c : UInt8) : letR (c.toNat : Int) = letB c := by
  unfold letR letB
  rw [Bool.eq_iff_iff]
  simp [UInt8.le_iff_toNat_le]
  omega
theorem digR_byte (c : UInt8) : digR (c.toNat : Int) = digB c := by
  unfold digR digB
  rw [Bool.eq_iff_iff]
  simp [UInt8.le_iff_toNat_le]
  omega
theorem width_pos (s : ByteArray) (pos : Nat) (h : pos < s.size) : 1 ≤ (Utf8.decode s pos).2 := by
  by_cases ha : (s[pos]'h).toNat < 128
  · rw [decode_ascii s pos h ha]; simp
  · exact (decode_high s pos h (by omega)).2
def runeB (s : ByteArray) (pos : Nat) : Int := ((Utf8.decode s pos).1 : Int)
theorem rune_low (s : ByteArray) (pos : Nat) (h : pos < s.size) (ha : (s[pos]'h).toNat < 128) : runeB s pos = ((s[pos]'h).toNat : Int) ∧ (Utf8.decode s pos).2 = 1 := by
  unfold runeB
  rw [decode_ascii s pos h ha]
  exact ⟨rfl, rfl⟩
theorem rune_high (s : ByteArray) (pos : Nat) (h : pos < s.size) (ha : ¬ (s[pos]'h).toNat < 128) : 128 ≤ runeB s pos := by
  have := (decode_high s pos h (by omega)).1
  unfold runeB
  omega
theorem letB_high (c : UInt8) (h : ¬ c.toNat < 128) : letB c = false ∧ digB c = false ∧ (c == 95) = false := by
  have : ∀ i : Fin 256, ¬ i.val < 128 → (letB (UInt8.ofNat i.val) = false ∧ digB (UInt8.ofNat i.val) = false ∧ (UInt8.ofNat i.val == 95) = false) := by decide +kernel
  have h1 := this ⟨c.toNat, c.toNat_lt⟩ h
  simpa using h1
theorem rune_let (s : ByteArray) (pos : Nat) (h : pos < s.size) : letR (runeB s pos) = letB s[pos] ∧ digR (runeB s pos) = digB s[pos] ∧ (runeB s pos == 95) = (s[pos] == 95) := by
  by_cases ha : (s[pos]'h).toNat < 128
  · rw [(rune_low s pos h ha).1, letR_byte, digR_byte]
    refine ⟨rfl, rfl, ?_⟩
    rw [Bool.eq_iff_iff]
    simp only [beq_iff_eq]
    constructor
    · intro e; exact UInt8.toNat_inj.1 (by have : (95 : UInt8).toNat = 95 := rfl; omega)
    · intro e; rw [e]; rfl
  · have h1 := rune_high s pos h ha
    obtain ⟨e1, e2, e3⟩ := letB_high _ ha
    rw [e1, e2, e3]
    refine ⟨by unfold letR; rw [Bool.eq_false_iff]; simp; omega, by unfold digR; rw [Bool.eq_false_iff]; simp; omega, by simp; omega⟩
theorem letB_low {c : UInt8} (h : letB c = true ∨ digB c = true ∨ (c == 95) = true) : c.toNat < 128 := by
  apply Classical.byContradiction
  intro h2
  obtain ⟨e1, e2, e3⟩ := letB_high c h2
  rw [e1, e2, e3] at h
  simp at h
theorem Name_any (s : ByteArray) (hs : s.size ≤ 9223372036854775807) (w : World) :
    Calls Tryz.prog 64 #[.string s] w fun e w' => e = .returned (.bool (nameB s.data.toList)) ∧ Below w.heap.size w w' := by
  have hl := list_size s
  have HNB := Lib.hid (nameB_okK s.data.toList)
  have hok0 : okK s.data.toList 0 = (decide (0 < s.size) && decide (s.size ≤ 24)) := by show (decide (0 < s.data.toList.length) && decide (s.data.toList.length ≤ 24)) = _; rw [hl]
  have hfin : okK s.data.toList s.size = nameB s.data.toList := by rw [← HNB.out, hl]
  have hno : ∀ k, k < s.size → okAt k (s.data.toList.getD k 0) = false → false = nameB s.data.toList := fun k hk h => by
    rw [← hfin]
    have h1 : okK s.data.toList (k + 1) = false := by show (okK s.data.toList k && okAt k (s.data.toList.getD k 0)) = false; rw [h, Bool.and_false]
    have := okK_mono s.data.toList (k + 1) (s.size - (k + 1)) h1
    rw [← this]; congr 1; omega
  have HOK0 := Lib.hid hok0
  have HFIN := Lib.hid hfin
  have HNO := Lib.hid hno
  clear hl hok0 hfin hno
  have HLT := Lib.hid letter_any
  have HDG := Lib.hid digit_any
  by_cases h0 : s.size = 0
  · have hr : nameB s.data.toList = false := by
      have e : s.data.toList = [] := List.length_eq_zero_iff.1 (by rw [list_size]; exact h0)
      rw [e]; rfl
    have e1 : s.toList = [] := by
      rw [ByteArray.toList_eq]; exact List.length_eq_zero_iff.1 (by rw [list_size]; exact h0)
    have e2 : (!s.toList.isEmpty) = false := by rw [e1]; rfl
    have HR := Lib.hid hr.symm
    clear hr h0
    go_enter Tryz.func64, Tryz.ntmps64
    go_wp2_with fail
    go_ret
    exact ⟨ret_b HR.out, Below.refl _ _⟩
  · have e1 : s.toList.isEmpty = false := by
      cases e : s.toList with
      | nil => rw [ByteArray.toList_eq] at e; have := congrArg List.length e; rw [list_size] at this; exact absurd this h0
      | cons => rfl
    have e2 : (s.toList == []) = false := by
      cases e : s.toList with
      | nil => rw [e] at e1; cases e1
      | cons => rfl
    have e3 : (!s.toList.isEmpty) = true := by rw [e1]; rfl
    have e4 : ¬ s.toList = [] := by
      intro e; rw [e] at e1; cases e1
    by_cases h24 : s.size ≤ 24
    · have h24i : (s.size : Int) ≤ 24 := by omega
      have h24j : ¬ (24 : Int) < (s.size : Int) := by omega
      have HZ := Lib.hid (show okK s.data.toList 0 = true by rw [HOK0.out]; simp; omega)
      go_enter Tryz.func64, Tryz.ntmps64
      go_wp2_with fail
      go_loopw [] (fun wr => ∃ pos : Nat, wr.heap[w.heap.size]? = some (.stringIter s pos) ∧ Below w.heap.size w wr ∧ pos ≤ s.size ∧ Hid (okK s.data.toList pos = true)) (fun wr => s.size - wr.iterPos w.heap.size)
      case atStart => exact ⟨0, World.iter_heap w s 0, (Below.refl _ _).alloc (Nat.le_refl _) _, by omega, HZ⟩
      case round =>
        obtain ⟨pos, hit, hbw, hps, HK⟩ := hrel
        have HBW := Lib.hid hbw
        clear hbw
        by_cases hp : pos < s.size
        · have hnx : ∀ ty, (Instr.next (.pointer (some ⟨w.heap.size, 0, none⟩)) true ty).run Tryz.prog wr = _ := fun ty => Lib.run_next_any_at wr w.heap.size s pos ty hit hp
          have hit2 := Lib.iterAt_heap wr w.heap.size s pos (pos + (Utf8.decode s pos).2) hit
          have hbw2 := Lib.below_iterAt HBW.out (k := w.heap.size) (Nat.le_refl _) s (pos + (Utf8.decode s pos).2)
          obtain ⟨r1, r2, r3⟩ := rune_let s pos hp
          have hg := getElem_list s pos hp
          have hok : okK s.data.toList (pos + 1) = okAt pos s[pos] := by show (okK s.data.toList pos && okAt pos (s.data.toList.getD pos 0)) = _; rw [HK.out, hg]; rfl
          have hno := HNO.out pos hp
          rw [hg] at hno
          have hlow : (letB s[pos] = true ∨ digB s[pos] = true ∨ (s[pos] == 95) = true) → (Utf8.decode s pos).2 = 1 := fun h => (rune_low s pos hp (letB_low h)).2
          have hm : wr.iterPos w.heap.size = pos := by simp [World.iterPos, hit]
          have HM := Lib.hid hm
          have hrn : ((Utf8.decode s pos).1 : Int) = runeB s pos := rfl
          rw [hrn] at hnx
          have HITZ := Lib.hid hit2
          have HB2 := Lib.hid hbw2
          have HOKS := Lib.hid hok
          have HNO2 := Lib.hid hno
          have HLOW := Lib.hid hlow
          have HLT2 := Lib.hid (HLT.out (runeB s pos))
          have HDG2 := Lib.hid (HDG.out (runeB s pos))
          have HR1 := Lib.hid r1
          have HR2 := Lib.hid r2
          have HR3 := Lib.hid r3
          clear hit hit2 hbw2 hg hok hno hlow hm hrn r1 r2 r3
          generalize hW1 : wr.iterAt w.heap.size s (pos + (Utf8.decode s pos).2) = W1 at *
          have HW1 := Lib.hid hW1
          clear hW1
          generalize runeB s pos = rn at *
          cases hlb : letB s[pos] with
          | true =>
            have hc := HLT2.out
            rw [HR1.out, hlb] at hc
            have HC := Lib.hid hc
            have HLB := Lib.hid hlb
            clear hc hlb
            go_wp2_with fail
            refine (HC.out _).mono ?_
            rintro e w' ⟨rfl, rfl⟩
            go_wp2_with fail
            go_roundw
            case rel =>
              have e1 := HLOW.out (.inl HLB.out)
              exact ⟨pos + 1, by rw [← e1]; exact HITZ.out, HB2.out, by omega, Lib.hid (by rw [HOKS.out]; unfold okAt; rw [HLB.out]; rfl)⟩
            case measure =>
              have e1 := HLOW.out (.inl HLB.out)
              have e2 : W1.iterPos w.heap.size = pos + 1 := by rw [← e1]; simp [World.iterPos, HITZ.out]
              rw [e2, HM.out]; omega
          | false =>
            have hc := HLT2.out
            rw [HR1.out, hlb] at hc
            have HC := Lib.hid hc
            have HLB := Lib.hid hlb
            clear hc hlb
            by_cases hz : pos = 0
            · subst hz
              have HR := Lib.hid (HNO2.out (by unfold okAt; rw [HLB.out]; rfl))
              go_wp2_with fail
              refine (HC.out _).mono ?_
              rintro e w' ⟨rfl, rfl⟩
              go_wp2_with fail
              go_ret
              exact ⟨ret_b HR.out, HB2.out⟩
            · have hz1 : ((pos : Int) == 0) = false := by simp; omega
              have hz2 : (pos == 0) = false := by simpa using hz
              have hz3 : 0 < pos := by omega
              have hdp : decide (0 < pos) = true := by simpa using hz3
              have HDP := Lib.hid hdp
              clear hdp
              cases hdb : digB s[pos] with
              | true =>
                have hd := HDG2.out
                rw [HR2.out, hdb] at hd
                have HD := Lib.hid hd
                have HDB := Lib.hid hdb
                clear hd hdb
                go_wp2_with fail
                refine (HC.out _).mono ?_
                rintro e w' ⟨rfl, rfl⟩
                go_wp2_with fail
                refine (HD.out _).mono ?_
                rintro e w' ⟨rfl, rfl⟩
                go_wp2_with fail
                go_roundw
                case rel =>
                  have e1 := HLOW.out (.inr (.inl HDB.out))
                  exact ⟨pos + 1, by rw [← e1]; exact HITZ.out, HB2.out, by omega, Lib.hid (by rw [HOKS.out]; unfold okAt; rw [HLB.out, HDB.out, HDP.out]; rfl)⟩
                case measure =>
                  have e1 := HLOW.out (.inr (.inl HDB.out))
                  have e2 : W1.iterPos w.heap.size = pos + 1 := by rw [← e1]; simp [World.iterPos, HITZ.out]
                  rw [e2, HM.out]; omega
              | false =>
                have hd := HDG2.out
                rw [HR2.out, hdb] at hd
                have HD := Lib.hid hd
                have HDB := Lib.hid hdb
                clear hd hdb
                cases h95 : (s[pos] == 95) with
                | true =>
                  have q1 : (rn == 95) = true := by rw [HR3.out, h95]
                  have q2 : (rn != 95) = false := by simp only [bne, q1]; rfl
                  have H95 := Lib.hid h95
                  clear h95
                  go_wp2_with fail
                  refine (HC.out _).mono ?_
                  rintro e w' ⟨rfl, rfl⟩
                  go_wp2_with fail
                  refine (HD.out _).mono ?_
                  rintro e w' ⟨rfl, rfl⟩
                  go_wp2_with fail
                  go_roundw
                  case rel =>
                    have e1 := HLOW.out (.inr (.inr H95.out))
                    exact ⟨pos + 1, by rw [← e1]; exact HITZ.out, HB2.out, by omega, Lib.hid (by rw [HOKS.out]; unfold okAt; rw [HLB.out, HDB.out, HDP.out, H95.out]; rfl)⟩
                  case measure =>
                    have e1 := HLOW.out (.inr (.inr H95.out))
                    have e2 : W1.iterPos w.heap.size = pos + 1 := by rw [← e1]; simp [World.iterPos, HITZ.out]
                    rw [e2, HM.out]; omega
                | false =>
                  have q1 : (rn == 95) = false := by rw [HR3.out, h95]
                  have q2 : (rn != 95) = true := by simp only [bne, q1]; rfl
                  have HR := Lib.hid (HNO2.out (by unfold okAt; rw [HLB.out, HDB.out, h95]; simp))
                  clear h95
                  go_wp2_with fail
                  refine (HC.out _).mono ?_
                  rintro e w' ⟨rfl, rfl⟩
                  go_wp2_with fail
                  refine (HD.out _).mono ?_
                  rintro e w' ⟨rfl, rfl⟩
                  go_wp2_with fail
                  go_ret
                  exact ⟨ret_b HR.out, HB2.out⟩
        · obtain rfl : pos = s.size := by omega
          have hnx : ∀ ty, (Instr.next (.pointer (some ⟨w.heap.size, 0, none⟩)) true ty).run Tryz.prog wr = _ := fun ty => Lib.run_next_end_at wr w.heap.size s s.size ty hit hp
          have HR := Lib.hid (show true = nameB s.data.toList by rw [← HFIN.out, HK.out])
          clear hit
          go_wp2_with fail
          go_ret
          exact ⟨ret_b HR.out, HBW.out⟩
    · have h24i : ¬ (s.size : Int) ≤ 24 := by omega
      have h24j : (24 : Int) < (s.size : Int) := by omega
      have hr : false = nameB s.data.toList := by
        rw [← HFIN.out]
        have h1 : okK s.data.toList 0 = false := by rw [HOK0.out]; simp; omega
        have := okK_mono s.data.toList 0 s.size h1
        rw [Nat.zero_add] at this
        exact this.symm
      have HR := Lib.hid hr
      clear hr
      go_enter Tryz.func64, Tryz.ntmps64
      go_wp2_with fail
      go_ret
      exact ⟨ret_b HR.out, Below.refl _ _⟩
end Go.Proofs.YtlmmfhbdebfgkaaGreatDoor.Va
namespace Go.Proofs.YtlmmfhbdebfgkaaGreatDoor.Ex
open Go.RowKit
open Lx
theorem named_any (op num : Int) (t : List UInt8) (q : Option Addr) (k c : Nat) (ht : t.length ≤ 9223372036854775807) (w : World) :
    Calls Tryz.prog 35 #[.agg #[.int .i64 op, .int .i64 num, .string (S t), .slice q k c]] w fun e w' => e = .returned (.bool (namedB op t)) ∧ Below w.heap.size w w' := by
  have HNM := Lib.hid (fun (w1 : World) => show Calls Tryz.prog 64 #[.string (S t)] w1 fun e w' => e = .returned (.bool (Va.nameB t)) ∧ Below w1.heap.size w1 w' from by
    have := Va.Name_any (S t) (by rw [S_size]; exact ht) w1
    rw [S_toList] at this
    exact this)
  have HTK := Lib.hid (fun (w1 : World) => taken_any t w1)
  have HB0 := Lib.hid ((Below.refl w.heap.size w).alloc (Nat.le_refl _) (.cells #[.int .i64 op, .int .i64 num, .string (S t), .slice q k c] 24))
  have HX0 := Lib.hid (Bx.new w (.int .i64 op) (.int .i64 num) (.string (S t)) (.slice q k c))
  clear ht
  unfold namedB
  by_cases h4 : op = 4
  · subst h4
    simp only [beq_self_eq_true, Bool.true_or, Bool.not_true, Bool.false_or]
    go_enter Tryz.func35, Tryz.ntmps35
    go_wp2_with fail
    refine (HNM.out _).mono ?_
    rintro e w1 ⟨rfl, b1⟩
    have HB1 := Lib.hid (HB0.out.trans (b1.mono (by simp)))
    clear b1
    go_wp2_with fail
    go_ret
    exact ⟨by simp, HB1.out⟩
  · by_cases h7 : op = 7
    · subst h7
      go_enter Tryz.func35, Tryz.ntmps35
      go_wp2_with fail
      refine (HNM.out _).mono ?_
      rintro e w1 ⟨rfl, b1⟩
      have HB1 := Lib.hid (HB0.out.trans (b1.mono (by simp)))
      clear b1
      go_wp2_with fail
      go_ret
      exact ⟨by simp, HB1.out⟩
    · by_cases h6 : op = 6
      · subst h6
        cases hnm : Va.nameB t with
        | true =>
          rw [hnm] at HNM
          go_enter Tryz.func35, Tryz.ntmps35
          go_wp2_with fail
          refine (HNM.out _).mono ?_
          rintro e w1 ⟨rfl, b1⟩
          have hx := HX0.out.keep (Kept.of_below (ok := fun _ => True) b1) trivial
          have p2 := hx.c2
          have HB1 := Lib.hid (HB0.out.trans (b1.mono (by simp)))
          clear b1 hx
          go_wp2_with fail
          refine (HTK.out _).mono ?_
          rintro e w2 ⟨rfl, rfl⟩
          go_wp2_with fail
          go_ret
          exact ⟨by simp, HB1.out⟩
        | false =>
          rw [hnm] at HNM
          go_enter Tryz.func35, Tryz.ntmps35
          go_wp2_with fail
          refine (HNM.out _).mono ?_
          rintro e w1 ⟨rfl, b1⟩
          have HB1 := Lib.hid (HB0.out.trans (b1.mono (by simp)))
          clear b1
          go_wp2_with fail
          go_ret
          exact ⟨by simp, HB1.out⟩
      · have e4 : (op == 4) = false := by rw [beq_eq_false_iff_ne]; exact h4
        have e7 : (op == 7) = false := by rw [beq_eq_false_iff_ne]; exact h7
        have e6 : (op == 6) = false := by rw [beq_eq_false_iff_ne]; exact h6
        go_enter Tryz.func35, Tryz.ntmps35
        go_wp2_with fail
        go_ret
        exact ⟨by simp [e4, e7, e6], HB0.out⟩
end Go.Proofs.YtlmmfhbdebfgkaaGreatDoor.Ex
namespace Go.Proofs.YtlmmfhbdebfgkaaGreatDoor.Ex
open Go.RowKit
open Lx
structure Con where
  word : List UInt8
  op : Int
  level : Int
  operands : Int
  turned : Bool
def conL : List Con := [⟨[124, 124], 41, 0, 2, false⟩, ⟨[38, 38], 40, 1, 2, false⟩, ⟨[61, 61], 30, 2, 2, false⟩, ⟨[33, 61], 31, 2, 2, false⟩, ⟨[60], 32, 2, 2, false⟩, ⟨[60, 61], 33, 2, 2, false⟩, ⟨[62], 32, 2, 2, true⟩, ⟨[62, 61], 33, 2, 2, true⟩,
  ⟨[43], 23, 3, 2, false⟩, ⟨[45], 24, 3, 2, false⟩, ⟨[42], 20, 4, 2, false⟩, ⟨[47], 21, 4, 2, false⟩, ⟨[37], 22, 4, 2, false⟩, ⟨[33], 10, 5, 1, false⟩, ⟨[45], 11, 5, 1, false⟩, ⟨[108, 101, 110], 12, 6, 1, false⟩, ⟨[97, 116], 25, 6, 2, false⟩, ⟨[112, 117, 115, 104], 26, 6, 2, false⟩]
def con0 : Con := ⟨[], 0, 0, 0, false⟩
def Con.cells (c : Con) : List Value := [.string (S c.word), .int .i64 c.op, .int .i64 c.level, .int .i64 c.operands, .bool c.turned]
def conC : List Value := conL.flatMap Con.cells
def ConsAt (w : World) : Prop := w.rangeAt 0 0 conC ∧ 0 < w.heap.size
theorem ConsAt.keep {w w' : World} {ok : Nat → Prop} (h : ConsAt w) (k : Kept ok w w') (hg : ok 0) : ConsAt w' :=
  ⟨fun j v hv => (k.cell (j := 0 + j) hg h.2).trans (h.1 j v hv), Nat.lt_of_lt_of_le h.2 k.size⟩
def conAt (k : Nat) : Con := conL.getD k con0
theorem con_idx_0 (w : World) : (Instr.index 135 (.agg conC.toArray) (.int .i64 0)).run Tryz.prog w = .ok (.agg #[.string (S [124, 124]), .int .i64 41, .int .i64 0, .int .i64 2, .bool false]) w := by kernel_rfl
theorem con_idx_1 (w : World) : (Instr.index 135 (.agg conC.toArray) (.int .i64 1)).run Tryz.prog w = .ok (.agg #[.string (S [38, 38]), .int .i64 40, .int .i64 1, .int .i64 2, .bool false]) w := by kernel_rfl
theorem con_idx_2 (w : World) : (Instr.index 135 (.agg conC.toArray) (.int .i64 2)).run Tryz.prog w = .ok (.agg #[.string (S [61, 61]), .int .i64 30, .int .i64 2, .int .i64 2, .bool false]) w := by kernel_rfl
theorem con_idx_3 (w : World) : (Instr.index 135 (.agg conC.toArray) (.int .i64 3)).run Tryz.prog w = .ok (.agg #[.string (S [33, 61]), .int .i64 31, .int .i64 2, .int .i64 2, .bool false]) w := by kernel_rfl
theorem con_idx_4 (w : World) : (Instr.index 135 (.agg conC.toArray) (.int .i64 4)).run Tryz.prog w = .ok (.agg #[.string (S [60]), .int .i64 32, .int .i64 2, .int .i64 2, .bool false]) w := by kernel_rfl
theorem con_idx_5 (w : World) : (Instr.index 135 (.agg conC.toArray) (.int .i64 5)).run Tryz.prog w = .ok (.agg #[.string (S [60, 61]), .int .i64 33, .int .i64 2, .int .i64 2, .bool false]) w := by kernel_rfl
theorem con_idx_6 (w : World) : (Instr.index 135 (.agg conC.toArray) (.int .i64 6)).run Tryz.prog w = .ok (.agg #[.string (S [62]), .int .i64 32, .int .i64 2, .int .i64 2, .bool true]) w := by kernel_rfl
theorem con_idx_7 (w : World) : (Instr.index 135 (.agg conC.toArray) (.int .i64 7)).run Tryz.prog w = .ok (.agg #[.string (S [62, 61]), .int .i64 33, .int .i64 2, .int .i64 2, .bool true]) w := by kernel_rfl
theorem con_idx_8 (w : World) : (Instr.index 135 (.agg conC.toArray) (.int .i64 8)).run Tryz.prog w = .ok (.agg #[.string (S [43]), .int .i64 23, .int .i64 3, .int .i64 2, .bool false]) w := by kernel_rfl
theorem con_idx_9 (w : World) : (Instr.index 135 (.agg conC.toArray) (.int .i64 9)).run Tryz.prog w = .ok (.agg #[.string (S [45]), .int .i64 24, .int .i64 3, .int .i64 2, .bool false]) w := by kernel_rfl
theorem con_idx_10 (w : World) : (Instr.index 135 (.agg conC.toArray) (.int .i64 10)).run Tryz.prog w = .ok (.agg #[.string (S [42]), .int .i64 20, .int .i64 4, .int .i64 2, .bool false]) w := by kernel_rfl
theorem con_idx_11 (w : World) : (Instr.index 135 (.agg conC.toArray) (.int .i64 11)).run Tryz.prog w = .ok (.agg #[.string (S [47]), .int .i64 21, .int .i64 4, .int .i64 2, .bool false]) w := by kernel_rfl
theorem con_idx_12 (w : World) : (Instr.index 135 (.agg conC.toArray) (.int .i64 12)).run Tryz.prog w = .ok (.agg #[.string (S [37]), .int .i64 22, .int .i64 4, .int .i64 2, .bool false]) w := by kernel_rfl
theorem con_idx_13 (w : World) : (Instr.index 135 (.agg conC.toArray) (.int .i64 13)).run Tryz.prog w = .ok (.agg #[.string (S [33]), .int .i64 10, .int .i64 5, .int .i64 1, .bool false]) w := by kernel_rfl
theorem con_idx_14 (w : World) : (Instr.index 135 (.agg conC.toArray) (.int .i64 14)).run Tryz.prog w = .ok (.agg #[.string (S [45]), .int .i64 11, .int .i64 5, .int .i64 1, .bool false]) w := by kernel_rfl
theorem con_idx_15 (w : World) : (Instr.index 135 (.agg conC.toArray) (.int .i64 15)).run Tryz.prog w = .ok (.agg #[.string (S [108, 101, 110]), .int .i64 12, .int .i64 6, .int .i64 1, .bool false]) w := by kernel_rfl
theorem con_idx_16 (w : World) : (Instr.index 135 (.agg conC.toArray) (.int .i64 16)).run Tryz.prog w = .ok (.agg #[.string (S [97, 116]), .int .i64 25, .int .i64 6, .int .i64 2, .bool false]) w := by kernel_rfl
theorem con_idx_17 (w : World) : (Instr.index 135 (.agg conC.toArray) (.int .i64 17)).run Tryz.prog w = .ok (.agg #[.string (S [112, 117, 115, 104]), .int .i64 26, .int .i64 6, .int .i64 2, .bool false]) w := by kernel_rfl
theorem con_idx (k : Nat) (hk : k < 18) (w : World) : (Instr.index 135 (.agg conC.toArray) (.int .i64 (k : Int))).run Tryz.prog w =
    .ok (.agg #[.string (S (conAt k).word), .int .i64 (conAt k).op, .int .i64 (conAt k).level, .int .i64 (conAt k).operands, .bool (conAt k).turned]) w := by
  have h : k = 0 ∨ k = 1 ∨ k = 2 ∨ k = 3 ∨ k = 4 ∨ k = 5 ∨ k = 6 ∨ k = 7 ∨ k = 8 ∨ k = 9 ∨ k = 10 ∨ k = 11 ∨ k = 12 ∨ k = 13 ∨ k = 14 ∨ k = 15 ∨ k = 16 ∨ k = 17 := by omega
  rcases h with rfl | rfl | rfl | rfl | rfl | rfl | rfl | rfl | rfl | rfl | rfl | rfl | rfl | rfl | rfl | rfl | rfl | rfl
  · exact con_idx_0 w
  · exact con_idx_1 w
  · exact con_idx_2 w
  · exact con_idx_3 w
  · exact con_idx_4 w
  · exact con_idx_5 w
  · exact con_idx_6 w
  · exact con_idx_7 w
  · exact con_idx_8 w
  · exact con_idx_9 w
  · exact con_idx_10 w
  · exact con_idx_11 w
  · exact con_idx_12 w
  · exact con_idx_13 w
  · exact con_idx_14 w
  · exact con_idx_15 w
  · exact con_idx_16 w
  · exact con_idx_17 w
def conOf (op : Int) : Option Con := conL.find? fun c => c.op == op && !c.turned
theorem con_find (p : Con → Bool) (k : Nat) (hk : k < 18) (h0 : ∀ j, j < k → p (conAt j) = false) (h : p (conAt k) = true) : conL.find? p = some (conAt k) := by
  have : ∀ (l : List Con) (k : Nat), k < l.length → (∀ j, j < k → p (l.getD j con0) = false) → p (l.getD k con0) = true → l.find? p = some (l.getD k con0) := by
    intro l
    induction l with
    | nil => intro k hk; simp at hk
    | cons a r ih =>
      intro k hk h0 h
      cases k with
      | zero => rw [List.find?_cons, show p a = true from h]; rfl
      | succ k =>
        rw [List.find?_cons, show p a = false from h0 0 (by omega)]
        exact ih k (by simpa using hk) (fun j hj => h0 (j + 1) (by omega)) h
  exact this conL k hk h0 h
theorem con_none (p : Con → Bool) (h0 : ∀ j, j < 18 → p (conAt j) = false) : conL.find? p = none := by
  rw [List.find?_eq_none]
  intro x hx
  obtain ⟨j, hj, rfl⟩ := List.getElem_of_mem hx
  have := h0 j hj
  simp [conAt, List.getD, hj] at this
  simp [this]
def Bc (w : World) (H : Nat) (c : Con) : Prop := w.heap[H]? = some (.cells #[.string (S c.word), .int .i64 c.op, .int .i64 c.level, .int .i64 c.operands, .bool c.turned] 96 (0, 0))
theorem put5_here {w : World} {H : Nat} {c : Con} (h : Bc w H c) (x0 x1 x2 x3 x4 : Value) :
    (((((w.setCell ⟨H, 0, none⟩ x0).setCell ⟨H, 1, none⟩ x1).setCell ⟨H, 2, none⟩ x2).setCell ⟨H, 3, none⟩ x3).setCell ⟨H, 4, none⟩ x4).heap[H]? = some (.cells #[x0, x1, x2, x3, x4] 96 (0, 0)) :=
  heap_setCell_same _ H 4 _ _ _ (heap_setCell_same _ H 3 _ _ _ (heap_setCell_same _ H 2 _ _ _ (heap_setCell_same _ H 1 _ _ _ (heap_setCell_same w H 0 _ _ _ h))))
theorem put5_at {w : World} {H : Nat} {c : Con} (h : Bc w H c) (x0 x1 x2 x3 x4 : Value) (o : Obj) (hl : H < w.heap.size) :
    ((((((w.setCell ⟨H, 0, none⟩ x0).setCell ⟨H, 1, none⟩ x1).setCell ⟨H, 2, none⟩ x2).setCell ⟨H, 3, none⟩ x3).setCell ⟨H, 4, none⟩ x4).alloc o).heap[H]? = some (.cells #[x0, x1, x2, x3, x4] 96 (0, 0)) :=
  ((Kept.alloc (ok := fun _ => True) _ o).block H trivial (by simp; exact hl)).trans (put5_here h x0 x1 x2 x3 x4)
theorem put5_below {w w' : World} (h : Below w.heap.size w w') (x0 x1 x2 x3 x4 : Value) :
    Below w.heap.size w (((((w'.setCell ⟨w.heap.size, 0, none⟩ x0).setCell ⟨w.heap.size, 1, none⟩ x1).setCell ⟨w.heap.size, 2, none⟩ x2).setCell ⟨w.heap.size, 3, none⟩ x3).setCell ⟨w.heap.size, 4, none⟩ x4) :=
  ((((h.setCell (p := ⟨w.heap.size, 0, none⟩) (Nat.le_refl _) x0).setCell (p := ⟨w.heap.size, 1, none⟩) (Nat.le_refl _) x1).setCell (p := ⟨w.heap.size, 2, none⟩) (Nat.le_refl _) x2).setCell (p := ⟨w.heap.size, 3, none⟩) (Nat.le_refl _) x3).setCell (p := ⟨w.heap.size, 4, none⟩) (Nat.le_refl _) x4
def conV (x : Option Con) : Value := match x with
  | some c => .tuple #[.agg #[.string (S c.word), .int .i64 c.op, .int .i64 c.level, .int .i64 c.operands, .bool c.turned], .bool true]
  | none => .tuple #[.agg #[.string (S []), .int .i64 0, .int .i64 0, .int .i64 0, .bool false], .bool false]
theorem res_con {fn : Func} {p u : Tmp} (h : fn.results = #[.cell p 96, .tmp u]) (tmps : Array Value) (w : World) (g : Nat) (a b c d e x : Value)
    (hp : tmps.getD p undef = .pointer (some ⟨g, 0, none⟩)) (hg : w.heap[g]? = some (.cells #[a, b, c, d, e] 96 (0, 0))) (hx : tmps.getD u undef = x) :
    (results fn tmps).run Tryz.prog w = .ok (.tuple #[.agg #[a, b, c, d, e], x]) w := by
  have hp' : tmps[p]?.getD undef = .pointer (some ⟨g, 0, none⟩) := by simpa using hp
  have hx' : tmps[u]?.getD undef = x := by simpa using hx
  have hr := run_loadVar_row (P := Tryz.prog) w g 96 96 #[a, b, c, d, e] (0, 0) _ hg Tryz.underlying96 rfl (by kernel_rfl)
  simp [results, h, hp', hx', asAddr, hr]
theorem constructOf_any (op : Int) (w : World) (hc : ConsAt w) :
    Calls Tryz.prog 36 #[.int .i64 op] w fun e w' => e = .returned (conV (conOf op)) ∧ Below w.heap.size w w' := by
  have hb0 := (Below.refl w.heap.size w).alloc (Nat.le_refl _) (.cells #[.string ⟨#[]⟩, .int .i64 0, .int .i64 0, .int .i64 0, .bool false] 96)
  have HLD := Lib.hid (hc.keep (Kept.of_below (ok := fun _ => True) hb0) trivial).1
  have HSZ := Lib.hid (show (Tryz.prog.info? 135).map (·.size) = some conC.length by kernel_rfl)
  have HB0 := Lib.hid hb0
  have HX0 := Lib.hid (show Bc (w.alloc (.cells #[.string ⟨#[]⟩, .int .i64 0, .int .i64 0, .int .i64 0, .bool false] 96)) w.heap.size con0 from heap_alloc_new w _)
  have HIDX := Lib.hid con_idx
  have HFA := Lib.hid (fun k (hk : k < 18) h0 h => con_find (fun c => c.op == op && !c.turned) k hk h0 h)
  have HFN := Lib.hid (con_none (fun c => c.op == op && !c.turned))
  clear hb0 hc
  go_enter Tryz.func36, Tryz.ntmps36
  go_wp2_with (refine wpList_load_mid rfl 135 _ rfl 0 0 rfl conC _ HLD.out Tryz.underlying135 rfl HSZ.out ?_)
  go_loopw [7] (fun i wr => ∃ k : Nat, k ≤ 18 ∧ i = .int .i64 k ∧ Hid (∀ j, j < k → ((conAt j).op == op && !(conAt j).turned) = false) ∧ Below w.heap.size w wr ∧ w.heap.size < wr.heap.size ∧ Bc wr w.heap.size con0) (fun i _ => 18 - (intOf i).toNat)
  case atStart => exact ⟨0, by omega, rfl, Lib.hid (fun j hj => absurd hj (by omega)), HB0.out, by simp, HX0.out⟩
  case round =>
    obtain ⟨k, hk, rfl, HN, hb, hsz, hx⟩ := hrel
    have HB := Lib.hid hb
    have HX := Lib.hid hx
    have hh := hx
    have f5 : ∀ j, wr.frozen? ⟨w.heap.size, j, none⟩ = false := fun j => frozen_of_row wr w.heap.size j _ _ hx
    have p0 : wr.cell? ⟨w.heap.size, 0, none⟩ = some (.string (S [])) := cell_of_row wr w.heap.size 0 _ _ (0, 0) hx
    have p1 : wr.cell? ⟨w.heap.size, 1, none⟩ = some (.int .i64 0) := cell_of_row wr w.heap.size 1 _ _ (0, 0) hx
    have p2 : wr.cell? ⟨w.heap.size, 2, none⟩ = some (.int .i64 0) := cell_of_row wr w.heap.size 2 _ _ (0, 0) hx
    have p3 : wr.cell? ⟨w.heap.size, 3, none⟩ = some (.int .i64 0) := cell_of_row wr w.heap.size 3 _ _ (0, 0) hx
    have p4 : wr.cell? ⟨w.heap.size, 4, none⟩ = some (.bool false) := cell_of_row wr w.heap.size 4 _ _ (0, 0) hx
    by_cases hlt : k < 18
    · have hki : (k : Int) < 18 := by omega
      have hidx := HIDX.out k hlt
      have HHIT := Lib.hid (HFA.out k hlt HN.out)
      have HST := Lib.hid (fun (e : ((conAt k).op == op && !(conAt k).turned) = false) => show Hid (∀ j, j < k + 1 → ((conAt j).op == op && !(conAt j).turned) = false) from Lib.hid (fun j hj => by
        by_cases ej : j = k
        · subst ej; exact e
        · exact HN.out j (by omega)))
      generalize conAt k = C at *
      obtain ⟨cw, co, cl, cn, ct⟩ := C
      simp only at hidx HHIT HST
      clear hb hx hh
      by_cases hop : co = op
      · subst hop
        cases ct with
        | false =>
          have HR := Lib.hid (show conOf co = some ⟨cw, co, cl, cn, false⟩ from HHIT.out (by simp))
          go_wp2_with fail
          refine bodyPost_ret (res_con rfl _ _ w.heap.size _ _ _ _ _ (.bool true) rfl (put5_at HX.out _ _ _ _ _ _ hsz) rfl) rfl ?_
          rw [HR.out]
          exact ⟨rfl, (put5_below HB.out _ _ _ _ _).alloc (by simp; omega) _⟩
        | true =>
          have hn2 := HST.out (by simp)
          go_wp2_with fail
          go_roundw
          case rel => exact ⟨k + 1, by omega, by go_num, hn2, HB.out.alloc (Nat.le_of_lt hsz) _, by simp; omega, (Kept.alloc (ok := fun _ => True) wr _).block _ trivial hsz |>.trans HX.out⟩
          case measure => simp [intOf]; omega
      · have hop2 : (co == op) = false := by rw [beq_eq_false_iff_ne]; exact hop
        have hn2 := HST.out (by simp [hop2])
        go_wp2_with fail
        go_roundw
        case rel => exact ⟨k + 1, by omega, by go_num, hn2, HB.out.alloc (Nat.le_of_lt hsz) _, by simp; omega, (Kept.alloc (ok := fun _ => True) wr _).block _ trivial hsz |>.trans HX.out⟩
        case measure => simp [intOf]; omega
    · obtain rfl : k = 18 := by omega
      have HR := Lib.hid (show conOf op = none from HFN.out HN.out)
      clear hb hx hh
      go_wp2_with fail
      refine bodyPost_ret (res_con rfl _ _ w.heap.size _ _ _ _ _ (.bool false) rfl (put5_here HX.out _ _ _ _ _) rfl) rfl ?_
      rw [HR.out]
      exact ⟨rfl, put5_below HB.out _ _ _ _ _⟩
end Go.Proofs.YtlmmfhbdebfgkaaGreatDoor.Ex
