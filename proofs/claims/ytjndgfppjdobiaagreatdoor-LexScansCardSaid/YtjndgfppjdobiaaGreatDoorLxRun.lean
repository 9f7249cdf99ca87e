/-
  The program's lexer: letters, digits; how long a beginning of some sort is.
-/
import Derived.Test.YtjndgfppjdobiaaGreatDoorVlName
import Derived.Test.YtjndgfppjdobiaaGreatDoorLxBlk
import Derived.Test.YtjndgfppjdobiaaGreatDoorVaOrd
namespace Go.Proofs.YtjndgfppjdobiaaGreatDoor.Lx
open Go.RowKit
open Va

theorem lxLetter_any (c : Int) (w : World) : Calls Tryz.prog 15 #[.int .i32 c] w fun e w' => e = .returned (.bool (letR c)) ∧ w = w' := by
  by_cases h1 : 65 ≤ c
  · by_cases h2 : c ≤ 90
    · have HR := Lib.hid (show true = letR c by unfold letR; simp [h1, h2])
      go_enter Tryz.func15, Tryz.ntmps15
      go_wp2_with fail
      go_ret
      exact ⟨ret_b HR.out, rfl⟩
    · by_cases h3 : 97 ≤ c
      · by_cases h4 : c ≤ 122
        · have HR := Lib.hid (show true = letR c by unfold letR; simp [h3, h4])
          go_enter Tryz.func15, Tryz.ntmps15
          go_wp2_with fail
          go_ret
          exact ⟨ret_b HR.out, rfl⟩
        · have HR := Lib.hid (show false = letR c by unfold letR; simp [h2, h4])
          go_enter Tryz.func15, Tryz.ntmps15
          go_wp2_with fail
          go_ret
          exact ⟨ret_b HR.out, rfl⟩
      · have HR := Lib.hid (show false = letR c by unfold letR; simp [h2, h3])
        go_enter Tryz.func15, Tryz.ntmps15
        go_wp2_with fail
        go_ret
        exact ⟨ret_b HR.out, rfl⟩
  · have h3 : ¬ 97 ≤ c := by omega
    have HR := Lib.hid (show false = letR c by unfold letR; simp [h1, h3])
    go_enter Tryz.func15, Tryz.ntmps15
    go_wp2_with fail
    go_ret
    exact ⟨ret_b HR.out, rfl⟩
theorem lxDigit_any (c : Int) (w : World) : Calls Tryz.prog 17 #[.int .i32 c] w fun e w' => e = .returned (.bool (digR c)) ∧ w = w' := by
  by_cases h1 : 48 ≤ c
  · by_cases h2 : c ≤ 57
    · have HR := Lib.hid (show true = digR c by unfold digR; simp [h1, h2])
      go_enter Tryz.func17, Tryz.ntmps17
      go_wp2_with fail
      go_ret
      exact ⟨ret_b HR.out, rfl⟩
    · have HR := Lib.hid (show false = digR c by unfold digR; simp [h2])
      go_enter Tryz.func17, Tryz.ntmps17
      go_wp2_with fail
      go_ret
      exact ⟨ret_b HR.out, rfl⟩
  · have HR := Lib.hid (show false = digR c by unfold digR; simp [h1])
    go_enter Tryz.func17, Tryz.ntmps17
    go_wp2_with fail
    go_ret
    exact ⟨ret_b HR.out, rfl⟩


def wordR (c : Int) : Bool := letR c || (digR c || c == 95)
theorem wordR_byte (c : UInt8) : (letB c || (digB c || c == 95)) = wordB c := by unfold wordB; rw [Bool.or_assoc]
theorem inName_any (c : Int) (w : World) : Calls Tryz.prog 35 #[.int .i32 c] w fun e w' => e = .returned (.bool (wordR c)) ∧ w = w' := by
  have HL := Lib.hid (lxLetter_any c)
  have HD := Lib.hid (lxDigit_any c)
  cases hl : letR c with
  | true =>
    have HR := Lib.hid (show true = wordR c by unfold wordR; rw [hl]; rfl)
    rw [hl] at HL
    clear hl
    go_enter Tryz.func35, Tryz.ntmps35
    go_wp2_with fail
    refine (HL.out _).mono ?_
    rintro e w' ⟨rfl, rfl⟩
    go_wp2_with fail
    go_ret
    exact ⟨ret_b HR.out, rfl⟩
  | false =>
    rw [hl] at HL
    cases hd : digR c with
    | true =>
      have HR := Lib.hid (show true = wordR c by unfold wordR; rw [hl, hd]; rfl)
      rw [hd] at HD
      clear hl hd
      go_enter Tryz.func35, Tryz.ntmps35
      go_wp2_with fail
      refine (HL.out _).mono ?_
      rintro e w' ⟨rfl, rfl⟩
      go_wp2_with fail
      refine (HD.out _).mono ?_
      rintro e w' ⟨rfl, rfl⟩
      go_wp2_with fail
      go_ret
      exact ⟨ret_b HR.out, rfl⟩
    | false =>
      have HR := Lib.hid (show (c == 95) = wordR c by unfold wordR; rw [hl, hd]; rfl)
      rw [hd] at HD
      clear hl hd
      go_enter Tryz.func35, Tryz.ntmps35
      go_wp2_with fail
      refine (HL.out _).mono ?_
      rintro e w' ⟨rfl, rfl⟩
      go_wp2_with fail
      refine (HD.out _).mono ?_
      rintro e w' ⟨rfl, rfl⟩
      go_wp2_with fail
      go_ret
      exact ⟨ret_b HR.out, rfl⟩

theorem tw_at (p : UInt8 → Bool) (l : List UInt8) (k : Nat) (hk : k < l.length) (h : (l.take k).all p = true) (h2 : p l[k] = false) : (l.takeWhile p).length = k := by
  have e : l = l.take k ++ l[k] :: l.drop (k + 1) := by
    rw [← List.drop_eq_getElem_cons hk, List.take_append_drop]
  conv => lhs; rw [e]
  rw [List.takeWhile_append_of_pos (fun a ha => List.all_eq_true.1 h a ha), List.takeWhile_cons, h2]
  simp; omega
theorem tw_all (p : UInt8 → Bool) (l : List UInt8) (h : l.all p = true) : (l.takeWhile p).length = l.length := by
  have := List.takeWhile_append_of_pos (p := p) (l₁ := l) (l₂ := []) (fun a ha => List.all_eq_true.1 h a ha)
  rw [List.append_nil, List.takeWhile_nil, List.append_nil] at this
  rw [this]
theorem rune_word (s : ByteArray) (pos : Nat) (h : pos < s.size) : wordR (runeB s pos) = wordB s[pos] := by
  obtain ⟨r1, r2, r3⟩ := rune_let s pos h
  unfold wordR
  rw [r1, r2, r3, wordR_byte]
theorem rune_dig (s : ByteArray) (pos : Nat) (h : pos < s.size) : digR (runeB s pos) = digB s[pos] := (rune_let s pos h).2.1
set_option linter.unusedSimpArgs false
set_option maxRecDepth 100000 in
set_option maxHeartbeats 1600000 in
theorem runWord_any (s : ByteArray) (hs : s.size ≤ 100000) (w : World) :
    Calls Tryz.prog 34 #[.string s, .func (.func 35) #[] #[]] w fun e w' => e = .returned (.int .i64 ((s.data.toList.takeWhile wordB).length : Int)) ∧ Below w.heap.size w w' := by
  have HF := Lib.hid inName_any
  have hls := list_size s
  have HLS := Lib.hid hls
  clear hls
  go_enter Tryz.func34, Tryz.ntmps34
  go_wp2_with fail
  go_loopw [] (fun wr => ∃ pos : Nat, wr.heap[w.heap.size]? = some (.stringIter s pos) ∧ Below w.heap.size w wr ∧ pos ≤ s.size ∧ Hid ((s.data.toList.take pos).all wordB = true)) (fun wr => s.size - wr.iterPos w.heap.size)
  case atStart => exact ⟨0, World.iter_heap w s 0, (Below.refl _ _).alloc (Nat.le_refl _) _, by omega, Lib.hid (by simp)⟩
  case round =>
    obtain ⟨pos, hit, hbw, hps, HK⟩ := hrel
    have HBW := Lib.hid hbw
    clear hbw
    by_cases hp : pos < s.size
    · have hnx : ∀ ty, (Instr.next (.pointer (some ⟨w.heap.size, 0, none⟩)) true ty).run Tryz.prog wr = _ := fun ty => Lib.run_next_any_at wr w.heap.size s pos ty hit hp
      have hit2 := Lib.iterAt_heap wr w.heap.size s pos (pos + (Utf8.decode s pos).2) hit
      have hbw2 := Lib.below_iterAt HBW.out (k := w.heap.size) (Nat.le_refl _) s (pos + (Utf8.decode s pos).2)
      have hm : wr.iterPos w.heap.size = pos := by simp [World.iterPos, hit]
      have HM := Lib.hid hm
      have hb := rune_word s pos hp
      have hrn : ((Utf8.decode s pos).1 : Int) = runeB s pos := rfl
      rw [hrn] at hnx
      have hlow : wordB s[pos] = true → (Utf8.decode s pos).2 = 1 := fun h => (rune_low s pos hp (letB_low (by first | exact .inr (.inl h) | simpa [wordB, digB, or_assoc] using h))).2
      have hall : (s.data.toList.take (pos + 1)).all wordB = wordB s[pos] := by
        rw [List.take_succ_eq_append_getElem (by rw [HLS.out]; exact hp), List.all_append, HK.out]
        simp only [List.all_cons, List.all_nil, Bool.and_true, Bool.true_and]; rfl
      have htw : wordB s[pos] = false → (s.data.toList.takeWhile wordB).length = pos := fun h => tw_at wordB _ pos (by rw [HLS.out]; exact hp) HK.out (by exact h)
      have HIT := Lib.hid hit2
      have HB2 := Lib.hid hbw2
      have HLOW := Lib.hid hlow
      have HALL := Lib.hid hall
      have HTW := Lib.hid htw
      have HC := Lib.hid (HF.out (runeB s pos))
      have HBY := Lib.hid hb
      clear hit hit2 hbw2 hm hb hrn hlow hall htw
      generalize hW1 : wr.iterAt w.heap.size s (pos + (Utf8.decode s pos).2) = W1 at *
      clear hW1
      generalize runeB s pos = rn at *
      cases hpb : wordB s[pos] with
      | true =>
        have hc := HC.out
        rw [HBY.out, hpb] at hc
        have HC2 := Lib.hid hc
        have HP := Lib.hid hpb
        clear hc hpb
        go_wp2_with fail
        refine (HC2.out _).mono ?_
        rintro e w' ⟨rfl, rfl⟩
        go_wp2_with fail
        go_roundw
        case rel =>
          have e1 := HLOW.out HP.out
          exact ⟨pos + 1, by rw [← e1]; exact HIT.out, HB2.out, by omega, Lib.hid (by rw [HALL.out, HP.out])⟩
        case measure =>
          have e1 := HLOW.out HP.out
          have e2 : W1.iterPos w.heap.size = pos + 1 := by rw [← e1]; simp [World.iterPos, HIT.out]
          rw [e2, HM.out]; omega
      | false =>
        have hc := HC.out
        rw [HBY.out, hpb] at hc
        have HC2 := Lib.hid hc
        have HR := Lib.hid (show (pos : Int) = ((s.data.toList.takeWhile wordB).length : Int) by rw [HTW.out hpb])
        clear hc hpb
        go_wp2_with fail
        refine (HC2.out _).mono ?_
        rintro e w' ⟨rfl, rfl⟩
        go_wp2_with fail
        go_ret
        exact ⟨ret_i HR.out, HB2.out⟩
    · obtain rfl : pos = s.size := by omega
      have hnx : ∀ ty, (Instr.next (.pointer (some ⟨w.heap.size, 0, none⟩)) true ty).run Tryz.prog wr = _ := fun ty => Lib.run_next_end_at wr w.heap.size s s.size ty hit hp
      have HR := Lib.hid (show (s.size : Int) = ((s.data.toList.takeWhile wordB).length : Int) by
        have h1 := HK.out
        rw [List.take_of_length_le (by rw [HLS.out]; exact Nat.le_refl _)] at h1
        rw [tw_all wordB _ h1, HLS.out])
      clear hit
      go_wp2_with fail
      go_ret
      exact ⟨ret_i HR.out, HBW.out⟩

set_option linter.unusedSimpArgs false
set_option maxRecDepth 100000 in
set_option maxHeartbeats 1600000 in
theorem runDig_any (s : ByteArray) (hs : s.size ≤ 100000) (w : World) :
    Calls Tryz.prog 34 #[.string s, .func (.func 17) #[] #[]] w fun e w' => e = .returned (.int .i64 ((s.data.toList.takeWhile digB).length : Int)) ∧ Below w.heap.size w w' := by
  have HF := Lib.hid lxDigit_any
  have hls := list_size s
  have HLS := Lib.hid hls
  clear hls
  go_enter Tryz.func34, Tryz.ntmps34
  go_wp2_with fail
  go_loopw [] (fun wr => ∃ pos : Nat, wr.heap[w.heap.size]? = some (.stringIter s pos) ∧ Below w.heap.size w wr ∧ pos ≤ s.size ∧ Hid ((s.data.toList.take pos).all digB = true)) (fun wr => s.size - wr.iterPos w.heap.size)
  case atStart => exact ⟨0, World.iter_heap w s 0, (Below.refl _ _).alloc (Nat.le_refl _) _, by omega, Lib.hid (by simp)⟩
  case round =>
    obtain ⟨pos, hit, hbw, hps, HK⟩ := hrel
    have HBW := Lib.hid hbw
    clear hbw
    by_cases hp : pos < s.size
    · have hnx : ∀ ty, (Instr.next (.pointer (some ⟨w.heap.size, 0, none⟩)) true ty).run Tryz.prog wr = _ := fun ty => Lib.run_next_any_at wr w.heap.size s pos ty hit hp
      have hit2 := Lib.iterAt_heap wr w.heap.size s pos (pos + (Utf8.decode s pos).2) hit
      have hbw2 := Lib.below_iterAt HBW.out (k := w.heap.size) (Nat.le_refl _) s (pos + (Utf8.decode s pos).2)
      have hm : wr.iterPos w.heap.size = pos := by simp [World.iterPos, hit]
      have HM := Lib.hid hm
      have hb := rune_dig s pos hp
      have hrn : ((Utf8.decode s pos).1 : Int) = runeB s pos := rfl
      rw [hrn] at hnx
      have hlow : digB s[pos] = true → (Utf8.decode s pos).2 = 1 := fun h => (rune_low s pos hp (letB_low (by first | exact .inr (.inl h) | simpa [wordB, digB, or_assoc] using h))).2
      have hall : (s.data.toList.take (pos + 1)).all digB = digB s[pos] := by
        rw [List.take_succ_eq_append_getElem (by rw [HLS.out]; exact hp), List.all_append, HK.out]
        simp only [List.all_cons, List.all_nil, Bool.and_true, Bool.true_and]; rfl
      have htw : digB s[pos] = false → (s.data.toList.takeWhile digB).length = pos := fun h => tw_at digB _ pos (by rw [HLS.out]; exact hp) HK.out (by exact h)
      have HIT := Lib.hid hit2
      have HB2 := Lib.hid hbw2
      have HLOW := Lib.hid hlow
      have HALL := Lib.hid hall
      have HTW := Lib.hid htw
      have HC := Lib.hid (HF.out (runeB s pos))
      have HBY := Lib.hid hb
      clear hit hit2 hbw2 hm hb hrn hlow hall htw
      generalize hW1 : wr.iterAt w.heap.size s (pos + (Utf8.decode s pos).2) = W1 at *
      clear hW1
      generalize runeB s pos = rn at *
      cases hpb : digB s[pos] with
      | true =>
        have hc := HC.out
        rw [HBY.out, hpb] at hc
        have HC2 := Lib.hid hc
        have HP := Lib.hid hpb
        clear hc hpb
        go_wp2_with fail
        refine (HC2.out _).mono ?_
        rintro e w' ⟨rfl, rfl⟩
        go_wp2_with fail
        go_roundw
        case rel =>
          have e1 := HLOW.out HP.out
          exact ⟨pos + 1, by rw [← e1]; exact HIT.out, HB2.out, by omega, Lib.hid (by rw [HALL.out, HP.out])⟩
        case measure =>
          have e1 := HLOW.out HP.out
          have e2 : W1.iterPos w.heap.size = pos + 1 := by rw [← e1]; simp [World.iterPos, HIT.out]
          rw [e2, HM.out]; omega
      | false =>
        have hc := HC.out
        rw [HBY.out, hpb] at hc
        have HC2 := Lib.hid hc
        have HR := Lib.hid (show (pos : Int) = ((s.data.toList.takeWhile digB).length : Int) by rw [HTW.out hpb])
        clear hc hpb
        go_wp2_with fail
        refine (HC2.out _).mono ?_
        rintro e w' ⟨rfl, rfl⟩
        go_wp2_with fail
        go_ret
        exact ⟨ret_i HR.out, HB2.out⟩
    · obtain rfl : pos = s.size := by omega
      have hnx : ∀ ty, (Instr.next (.pointer (some ⟨w.heap.size, 0, none⟩)) true ty).run Tryz.prog wr = _ := fun ty => Lib.run_next_end_at wr w.heap.size s s.size ty hit hp
      have HR := Lib.hid (show (s.size : Int) = ((s.data.toList.takeWhile digB).length : Int) by
        have h1 := HK.out
        rw [List.take_of_length_le (by rw [HLS.out]; exact Nat.le_refl _)] at h1
        rw [tw_all digB _ h1, HLS.out])
      clear hit
      go_wp2_with fail
      go_ret
      exact ⟨ret_i HR.out, HBW.out⟩


end Go.Proofs.YtjndgfppjdobiaaGreatDoor.Lx
