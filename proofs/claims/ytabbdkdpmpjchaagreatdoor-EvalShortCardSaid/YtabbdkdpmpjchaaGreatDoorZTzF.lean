/-
  Several texts in one: VaRef, VaRight, VaOrder, VaOrd, VaDec, VaPrint, VaPrintB, VaRows, VaKey.
-/
import Derived.Test.YtabbdkdpmpjchaaGreatDoorZTzB
import Derived.Test.YtabbdkdpmpjchaaGreatDoorZTzA
import Derived.Deep.RegionHeld3
import Derived.WalkLawsBesides
import Derived.Deep.AppendLies
namespace Go.Proofs.YtabbdkdpmpjchaaGreatDoor.Va
open Go.RowKit
def anyB (l : List UInt8) (c : UInt8) : Bool := l.any (· == c)
set_option maxHeartbeats 800000 in
theorem in_any (c : UInt8) (v : Int) (hv : v = (c.toNat : Int)) (s : ByteArray) (hs : s.size ≤ 9223372036854775807) (w : World) :
    Calls Tryz.prog 113 #[.int .u8 v, .string s] w fun e w' => e = .returned (.bool (anyB s.data.toList c)) ∧ w = w' := by
  have hl := list_size s
  have HV := Lib.hid hv
  clear hv
  go_enter Tryz.func113, Tryz.ntmps113
  go_wp2_with fail
  go_loop [5] (fun i => ∃ k : Nat, k ≤ s.size ∧ i = .int .i64 k ∧ anyB (s.data.toList.take k) c = false) (fun i => s.size - (intOf i).toNat)
  case atStart => exact ⟨0, by omega, rfl, by simp [anyB]⟩
  case round =>
    obtain ⟨k, hk, rfl, hno⟩ := hrel
    have HNO := Lib.hid hno
    clear hno
    by_cases hlt : k < s.size
    · have hg := getElem_list s k hlt
      have hts : s.data.toList.take (k + 1) = s.data.toList.take k ++ [s[k]] := by
        rw [List.take_succ_eq_append_getElem (by simpa using hlt)]; rfl
      have HTS := Lib.hid hts
      have hb := byte_lt s[k]
      clear hts hg
      by_cases he : s[k] = c
      · have e1 : (((s[k]).toNat : Int) == v) = true := by rw [HV.out, he]; simp
        have hres : anyB s.data.toList c = true := by
          unfold anyB
          rw [List.any_eq_true]
          exact ⟨s[k], by rw [show s[k] = s.data.toList[k]'(by omega) from rfl]; exact List.getElem_mem _, by simp [he]⟩
        have HRES := Lib.hid hres
        clear he hres
        go_wp2_with fail
        go_ret
        exact ⟨by rw [HRES.out]; rfl, rfl⟩
      · have e1 : (((s[k]).toNat : Int) == v) = false := by
          rw [HV.out]; simp
          intro h
          exact he (UInt8.toNat_inj.1 (by omega))
        have HE := Lib.hid he
        clear he
        go_wp2_with fail
        go_round
        case rel => exact ⟨k + 1, by omega, by go_num, by have := HNO.out; unfold anyB at this ⊢; rw [HTS.out, List.any_append, this]; simp [HE.out]⟩
        case measure => simp [intOf]; omega
    · obtain rfl : k = s.size := by omega
      go_wp2_with fail
      go_ret
      have := HNO.out
      rw [List.take_of_length_le (by omega)] at this
      exact ⟨by rw [this]; rfl, rfl⟩
def LET : ByteArray := ⟨#[97, 98, 99, 100, 101, 102, 103, 104, 105, 106, 107, 108, 109, 110, 111, 112, 113, 114, 115, 116, 117, 118, 119, 120, 121, 122, 65, 66, 67, 68, 69, 70, 71, 72, 73, 74, 75, 76, 77, 78, 79, 80, 81, 82, 83, 84, 85, 86, 87, 88, 89, 90]⟩
def DIG : ByteArray := ⟨#[48, 49, 50, 51, 52, 53, 54, 55, 56, 57, 95]⟩
theorem let_any (c : UInt8) : anyB LET.data.toList c = letB c := by
  have : ∀ i : Fin 256, anyB LET.data.toList (UInt8.ofNat i.val) = letB (UInt8.ofNat i.val) := by decide +kernel
  have h := this ⟨c.toNat, c.toNat_lt⟩
  simpa using h
theorem dig_any (c : UInt8) : anyB DIG.data.toList c = (digB c || c == 95) := by
  have : ∀ i : Fin 256, anyB DIG.data.toList (UInt8.ofNat i.val) = (digB (UInt8.ofNat i.val) || UInt8.ofNat i.val == 95) := by decide +kernel
  have h := this ⟨c.toNat, c.toNat_lt⟩
  simpa using h
theorem in_let (c : UInt8) (w : World) : Calls Tryz.prog 113 #[.int .u8 (c.toNat : Int), .string LET] w fun e w' => e = .returned (.bool (letB c)) ∧ w = w' := by
  have := in_any c _ rfl LET (by decide) w
  rwa [let_any] at this
theorem in_dig (c : UInt8) (w : World) : Calls Tryz.prog 113 #[.int .u8 (c.toNat : Int), .string DIG] w fun e w' => e = .returned (.bool (digB c || c == 95)) ∧ w = w' := by
  have := in_any c _ rfl DIG (by decide) w
  rwa [dig_any] at this
def okAt (i : Nat) (c : UInt8) : Bool := letB c || (decide (0 < i) && (digB c || c == 95))
def okK (l : List UInt8) : Nat → Bool
  | 0 => decide (0 < l.length) && decide (l.length ≤ 24)
  | k + 1 => okK l k && okAt k (l.getD k 0)
theorem okK_mono (l : List UInt8) (k j : Nat) (h : okK l k = false) : okK l (k + j) = false := by
  induction j with
  | zero => exact h
  | succ j ih => show (okK l (k + j) && _) = false; rw [ih]; rfl
theorem okK_all (l : List UInt8) (hl : okK l 0 = true) : ∀ k, k ≤ l.length → okK l k = true → ∀ i, i < k → okAt i (l.getD i 0) = true
  | 0, _, _, i, hi => by omega
  | k + 1, hk, h, i, hi => by
    simp only [okK, Bool.and_eq_true] at h
    by_cases e : i = k
    · subst e; exact h.2
    · exact okK_all l hl k (by omega) h.1 i (by omega)
theorem okK_of (l : List UInt8) (hl : okK l 0 = true) (h : ∀ i, i < l.length → okAt i (l.getD i 0) = true) : ∀ k, k ≤ l.length → okK l k = true
  | 0, _ => hl
  | k + 1, hk => by simp only [okK, Bool.and_eq_true]; exact ⟨okK_of l hl h k (by omega), h k (by omega)⟩
theorem nameB_okK (l : List UInt8) : okK l l.length = nameB l := by
  cases l with
  | nil => rfl
  | cons c r =>
    rw [Bool.eq_iff_iff]
    have h0 : okK (c :: r) 0 = decide (r.length ≤ 23) := by simp [okK]
    constructor
    · intro h
      have hl : okK (c :: r) 0 = true := by
        cases e : okK (c :: r) 0 with
        | true => rfl
        | false => have := okK_mono (c :: r) 0 (c :: r).length e; rw [Nat.zero_add, h] at this; cases this
      have ha := okK_all _ hl _ (Nat.le_refl _) h
      simp only [nameB, Bool.and_eq_true, decide_eq_true_eq, List.all_eq_true]
      refine ⟨⟨?_, fun x hx => ?_⟩, by simpa [h0] using hl⟩
      · have := ha 0 (by simp); simpa [okAt] using this
      · obtain ⟨i, hi, rfl⟩ := List.getElem_of_mem hx
        have := ha (i + 1) (by simpa using hi)
        simp [okAt, List.getD, hi] at this
        simp only [wordB, Bool.or_eq_true, beq_iff_eq]
        rcases this with h1 | h1 | h1
        · exact .inl (.inl h1)
        · exact .inl (.inr h1)
        · exact .inr h1
    · intro h
      simp only [nameB, Bool.and_eq_true, decide_eq_true_eq, List.all_eq_true] at h
      refine okK_of _ (by rw [h0]; simpa using h.2) (fun i hi => ?_) _ (Nat.le_refl _)
      cases i with
      | zero => simp [okAt, h.1.1]
      | succ i =>
        have hi' : i < r.length := by simpa using hi
        have := h.1.2 r[i] (List.getElem_mem _)
        simp only [wordB, Bool.or_eq_true, beq_iff_eq] at this
        simp [okAt, List.getD, hi']
        rcases this with (h1 | h1) | h1
        · exact .inl h1
        · exact .inr (.inl h1)
        · exact .inr (.inr h1)
set_option maxRecDepth 100000 in
set_option maxHeartbeats 1600000 in
theorem refName_any (s : ByteArray) (hs : s.size ≤ 9223372036854775807) (w : World) :
    Calls Tryz.prog 68 #[.string s] w fun e w' => e = .returned (.bool (nameB s.data.toList)) ∧ w = w' := by
  have hl := list_size s
  have HNB := Lib.hid (nameB_okK s.data.toList)
  have hfin : ∀ k, k ≤ s.size → (okK s.data.toList k = false ∨ k = s.size) → okK s.data.toList k = nameB s.data.toList := fun k hk h => by
    rw [← HNB.out, hl]
    rcases h with h | h
    · rw [h]
      have := okK_mono s.data.toList k (s.size - k) h
      rw [show k + (s.size - k) = s.size by omega] at this
      exact this.symm
    · rw [h]
  have HFIN := Lib.hid hfin
  have hok0 : okK s.data.toList 0 = (decide (0 < s.size) && decide (s.size ≤ 24)) := by simp [okK]
  have HOK0 := Lib.hid hok0
  clear hok0 hfin
  have hinl := in_let
  have hind := in_dig
  have hLET : LET = ⟨#[97, 98, 99, 100, 101, 102, 103, 104, 105, 106, 107, 108, 109, 110, 111, 112, 113, 114, 115, 116, 117, 118, 119, 120, 121, 122, 65, 66, 67, 68, 69, 70, 71, 72, 73, 74, 75, 76, 77, 78, 79, 80, 81, 82, 83, 84, 85, 86, 87, 88, 89, 90]⟩ := rfl
  have hDIG : DIG = ⟨#[48, 49, 50, 51, 52, 53, 54, 55, 56, 57, 95]⟩ := rfl
  rw [hLET] at hinl
  rw [hDIG] at hind
  have HL := Lib.hid hinl
  have HD := Lib.hid hind
  clear hinl hind hLET hDIG
  by_cases hA : 0 < s.size ∧ s.size ≤ 24
  · obtain ⟨h0, h1⟩ := hA
    have h1i : (s.size : Int) ≤ 24 := by omega
    have hk0 : okK s.data.toList 0 = true := by rw [HOK0.out]; simp [h0, h1]
    have HK0 := Lib.hid hk0
    clear hk0
    go_enter Tryz.func68, Tryz.ntmps68
    go_wp2_with fail
    go_loop [3, 4] (fun ok i => ∃ k : Nat, k ≤ s.size ∧ i = .int .i64 k ∧ ok = .bool (okK s.data.toList k)) (fun _ i => s.size - (intOf i).toNat)
    case atStart => exact ⟨0, by omega, rfl, by rw [HK0.out]⟩
    case round =>
      obtain ⟨k, hk, rfl, rfl⟩ := hrel
      cases hok : okK s.data.toList k with
      | false =>
        have hf := HFIN.out k hk (.inl hok)
        rw [hok] at hf
        have HF := Lib.hid hf
        clear hok hf
        by_cases hlt : k < s.size
        · go_wp2_with fail
          go_ret
          exact ⟨by rw [← HF.out]; rfl, rfl⟩
        · go_wp2_with fail
          go_ret
          exact ⟨by rw [← HF.out]; rfl, rfl⟩
      | true =>
        by_cases hlt : k < s.size
        · have hg := getElem_list s k hlt
          have hn : okK s.data.toList (k + 1) = okAt k s[k] := by show (okK _ k && _) = _; rw [hok, hg]; rfl
          have hb := byte_lt s[k]
          have hcl := HL.out s[k]
          have hcd := HD.out s[k]
          have HN := Lib.hid hn
          have hoa : okAt k s[k] = (letB s[k] || (decide (0 < k) && (digB s[k] || s[k] == 95))) := rfl
          have HOA := Lib.hid hoa
          clear hn hok hg hoa
          generalize (digB s[k] || s[k] == 95) = dd at *
          cases hlb : letB s[k] with
          | true =>
            rw [hlb] at hcl
            have HCL := Lib.hid hcl
            have HLB := Lib.hid hlb
            clear hcl hcd hlb
            go_wp2_with fail
            refine (HCL.out _).mono ?_
            rintro e w' ⟨rfl, rfl⟩
            go_wp2_with fail
            go_round
            case rel => exact ⟨k + 1, by omega, by go_num, by rw [HN.out, HOA.out, HLB.out]; rfl⟩
            case measure => simp [intOf]; omega
          | false =>
            rw [hlb] at hcl
            have HCL := Lib.hid hcl
            have HLB := Lib.hid hlb
            have HCD := Lib.hid hcd
            clear hcl hcd hlb
            by_cases hk0 : 0 < k
            · go_wp2_with fail
              refine (HCL.out _).mono ?_
              rintro e w' ⟨rfl, rfl⟩
              go_wp2_with fail
              refine (HCD.out _).mono ?_
              rintro e w' ⟨rfl, rfl⟩
              go_wp2_with fail
              go_round
              case rel => exact ⟨k + 1, by omega, by go_num, by rw [HN.out, HOA.out, HLB.out, decide_eq_true hk0]; simp⟩
              case measure => simp [intOf]; omega
            · obtain rfl : k = 0 := by omega
              go_wp2_with fail
              refine (HCL.out _).mono ?_
              rintro e w' ⟨rfl, rfl⟩
              go_wp2_with fail
              go_round
              case rel => exact ⟨1, by omega, by go_num, by rw [HN.out, HOA.out, HLB.out]; rfl⟩
              case measure => simp [intOf]; omega
        · obtain rfl : k = s.size := by omega
          have hf := HFIN.out s.size hk (.inr rfl)
          rw [hok] at hf
          have HF := Lib.hid hf
          clear hok hf
          go_wp2_with fail
          go_ret
          exact ⟨by rw [← HF.out]; rfl, rfl⟩
  · have hf := HFIN.out 0 (by omega) (.inl (by rw [HOK0.out]; simp; omega))
    rw [HOK0.out, show (decide (0 < s.size) && decide (s.size ≤ 24)) = false by simp; omega] at hf
    rw [← hf]
    clear hf
    by_cases h0 : 0 < s.size
    · have h24 : ¬ (s.size : Int) ≤ 24 := by omega
      go_enter Tryz.func68, Tryz.ntmps68
      go_wp2_with fail
      refine wp_loop_rounds 1 ?_
      rw [rounds_succ]
      go_wp2_with fail
      go_ret
      exact ⟨rfl, rfl⟩
    · have h00 : s.size = 0 := by omega
      go_enter Tryz.func68, Tryz.ntmps68
      go_wp2_with fail
      refine wp_loop_rounds 1 ?_
      rw [rounds_succ]
      go_wp2_with fail
      go_ret
      exact ⟨rfl, rfl⟩
end Go.Proofs.YtabbdkdpmpjchaaGreatDoor.Va

namespace Go.Proofs.YtabbdkdpmpjchaaGreatDoor.Va
open Go.RowKit
def NumsAt (w : World) (a : Option Addr) (l : List Int) : Prop := ∀ i, i < l.length → ∃ b off, a = some ⟨b, off, none⟩ ∧ w.cell? ⟨b, off + i, none⟩ = some (.int .i64 (l.getD i 0)) ∧ b < w.heap.size
theorem NumsAt.below {w w' : World} {a : Option Addr} {l : List Int} (h : NumsAt w a l) (b : Below w.heap.size w w') : NumsAt w' a l := fun i hi => by
  obtain ⟨g, off, e, hc, hl⟩ := h i hi
  exact ⟨g, off, e, (b.cell (p := ⟨g, off + i, none⟩) hl).trans hc, Nat.lt_of_lt_of_le hl b.size⟩
def valC (v : V) (a : Option Addr) (cap : Nat) : Value := .agg #[.int .i64 v.kind, .int .i64 v.num, .string (S v.text), .slice a v.list.length cap]
structure VOk (v : V) : Prop where
  text : v.text.length ≤ 9223372036854775807
  list : v.list.length ≤ 9223372036854775807
theorem ret_b {a b : Bool} (h : a = b) : Ending.returned (.bool a) = .returned (.bool b) := by rw [h]
set_option linter.unusedSimpArgs false
set_option maxRecDepth 100000 in
set_option maxHeartbeats 1600000 in
theorem refRight_0 (n : Int) (t : List UInt8) (l : List Int) (ok : VOk ⟨0, n, t, l⟩) (a : Option Addr) (cap : Nat) (w : World) :
    Calls Tryz.prog 38 #[valC ⟨0, n, t, l⟩ a cap] w fun e w' => e = .returned (.bool (rightB ⟨0, n, t, l⟩)) ∧ Below w.heap.size w w' := by
  have hts : (S t).size = t.length := S_size t
  have ht1 := ok.text
  have hl1 := ok.list
  simp only at ht1 hl1
  have hti : (t.length : Int) ≤ 9223372036854775807 := by omega
  unfold valC
  simp only
  clear ok
  by_cases h0 : n = 0
  · subst h0
    by_cases hx : t = []
    · subst hx
      have hx0 : (S []).size = 0 := rfl
      clear hts ht1 hti
      by_cases hy : l = []
      · subst hy
        have HR := Lib.hid (show true = rightB ⟨0, 0, [], []⟩ from by symm; simp [rightB])
        go_enter Tryz.func38, Tryz.ntmps38
        go_wp2_with fail
        go_ret
        exact ⟨ret_b HR.out, (Below.refl _ _).alloc (Nat.le_refl _) _⟩
      · have hyi : 0 < l.length := List.length_pos_iff.2 hy
        have hyb : ((l.length : Int) == 0) = false := by simp; omega
        have hyc : (l.length == 0) = false := by simp; omega
        have HR := Lib.hid (show false = rightB ⟨0, 0, [], l⟩ from by symm; simp [rightB, hy])
        clear hy
        go_enter Tryz.func38, Tryz.ntmps38
        go_wp2_with fail
        go_ret
        exact ⟨ret_b HR.out, (Below.refl _ _).alloc (Nat.le_refl _) _⟩
    · have hxi : 0 < t.length := List.length_pos_iff.2 hx
      have HR := Lib.hid (show false = rightB ⟨0, 0, t, l⟩ from by symm; simp [rightB, hx])
      clear hx
      go_enter Tryz.func38, Tryz.ntmps38
      go_wp2_with fail
      go_ret
      exact ⟨ret_b HR.out, (Below.refl _ _).alloc (Nat.le_refl _) _⟩
  · have h0b : (n == 0) = false := by simpa using h0
    have h0n : (n != 0) = true := by simpa using h0
    have HR := Lib.hid (show false = rightB ⟨0, n, t, l⟩ from by symm; simp [rightB, h0])
    clear h0
    go_enter Tryz.func38, Tryz.ntmps38
    go_wp2_with fail
    go_ret
    exact ⟨ret_b HR.out, (Below.refl _ _).alloc (Nat.le_refl _) _⟩
set_option maxRecDepth 100000 in
set_option maxHeartbeats 1600000 in
theorem refRight_1 (n : Int) (t : List UInt8) (l : List Int) (ok : VOk ⟨1, n, t, l⟩) (a : Option Addr) (cap : Nat) (w : World) :
    Calls Tryz.prog 38 #[valC ⟨1, n, t, l⟩ a cap] w fun e w' => e = .returned (.bool (rightB ⟨1, n, t, l⟩)) ∧ Below w.heap.size w w' := by
  have hts : (S t).size = t.length := S_size t
  have ht1 := ok.text
  have hl1 := ok.list
  simp only at ht1 hl1
  have hti : (t.length : Int) ≤ 9223372036854775807 := by omega
  unfold valC
  simp only
  clear ok
  by_cases hx : t = []
  · subst hx
    have hx0 : (S []).size = 0 := rfl
    clear hts ht1 hti
    by_cases hy : l = []
    · subst hy
      have HR := Lib.hid (show true = rightB ⟨1, n, [], []⟩ from by symm; simp [rightB])
      go_enter Tryz.func38, Tryz.ntmps38
      go_wp2_with fail
      go_ret
      exact ⟨ret_b HR.out, (Below.refl _ _).alloc (Nat.le_refl _) _⟩
    · have hyi : 0 < l.length := List.length_pos_iff.2 hy
      have hyb : ((l.length : Int) == 0) = false := by simp; omega
      have hyc : (l.length == 0) = false := by simp; omega
      have HR := Lib.hid (show false = rightB ⟨1, n, [], l⟩ from by symm; simp [rightB, hy])
      clear hy
      go_enter Tryz.func38, Tryz.ntmps38
      go_wp2_with fail
      go_ret
      exact ⟨ret_b HR.out, (Below.refl _ _).alloc (Nat.le_refl _) _⟩
  · have hxi : 0 < t.length := List.length_pos_iff.2 hx
    have HR := Lib.hid (show false = rightB ⟨1, n, t, l⟩ from by symm; simp [rightB, hx])
    clear hx
    go_enter Tryz.func38, Tryz.ntmps38
    go_wp2_with fail
    go_ret
    exact ⟨ret_b HR.out, (Below.refl _ _).alloc (Nat.le_refl _) _⟩
set_option maxRecDepth 100000 in
set_option maxHeartbeats 1600000 in
theorem refRight_2 (n : Int) (t : List UInt8) (l : List Int) (ok : VOk ⟨2, n, t, l⟩) (a : Option Addr) (cap : Nat) (w : World) :
    Calls Tryz.prog 38 #[valC ⟨2, n, t, l⟩ a cap] w fun e w' => e = .returned (.bool (rightB ⟨2, n, t, l⟩)) ∧ Below w.heap.size w w' := by
  have hts : (S t).size = t.length := S_size t
  have ht1 := ok.text
  have hl1 := ok.list
  simp only at ht1 hl1
  have hti : (t.length : Int) ≤ 9223372036854775807 := by omega
  unfold valC
  simp only
  clear ok
  by_cases h0 : n = 0
  · subst h0
    by_cases hx : t = []
    · subst hx
      have hx0 : (S []).size = 0 := rfl
      clear hts ht1 hti
      by_cases hy : l = []
      · subst hy
        have HR := Lib.hid (show true = rightB ⟨2, 0, [], []⟩ from by symm; simp [rightB])
        go_enter Tryz.func38, Tryz.ntmps38
        go_wp2_with fail
        go_ret
        exact ⟨ret_b HR.out, (Below.refl _ _).alloc (Nat.le_refl _) _⟩
      · have hyi : 0 < l.length := List.length_pos_iff.2 hy
        have hyb : ((l.length : Int) == 0) = false := by simp; omega
        have hyc : (l.length == 0) = false := by simp; omega
        have HR := Lib.hid (show false = rightB ⟨2, 0, [], l⟩ from by symm; simp [rightB, hy])
        clear hy
        go_enter Tryz.func38, Tryz.ntmps38
        go_wp2_with fail
        go_ret
        exact ⟨ret_b HR.out, (Below.refl _ _).alloc (Nat.le_refl _) _⟩
    · have hxi : 0 < t.length := List.length_pos_iff.2 hx
      have HR := Lib.hid (show false = rightB ⟨2, 0, t, l⟩ from by symm; simp [rightB, hx])
      clear hx
      go_enter Tryz.func38, Tryz.ntmps38
      go_wp2_with fail
      go_ret
      exact ⟨ret_b HR.out, (Below.refl _ _).alloc (Nat.le_refl _) _⟩
  · by_cases h1 : n = 1
    · subst h1
      by_cases hx : t = []
      · subst hx
        have hx0 : (S []).size = 0 := rfl
        clear hts ht1 hti
        by_cases hy : l = []
        · subst hy
          have HR := Lib.hid (show true = rightB ⟨2, 1, [], []⟩ from by symm; simp [rightB])
          go_enter Tryz.func38, Tryz.ntmps38
          go_wp2_with fail
          go_ret
          exact ⟨ret_b HR.out, (Below.refl _ _).alloc (Nat.le_refl _) _⟩
        · have hyi : 0 < l.length := List.length_pos_iff.2 hy
          have hyb : ((l.length : Int) == 0) = false := by simp; omega
          have hyc : (l.length == 0) = false := by simp; omega
          have HR := Lib.hid (show false = rightB ⟨2, 1, [], l⟩ from by symm; simp [rightB, hy])
          clear hy
          go_enter Tryz.func38, Tryz.ntmps38
          go_wp2_with fail
          go_ret
          exact ⟨ret_b HR.out, (Below.refl _ _).alloc (Nat.le_refl _) _⟩
      · have hxi : 0 < t.length := List.length_pos_iff.2 hx
        have HR := Lib.hid (show false = rightB ⟨2, 1, t, l⟩ from by symm; simp [rightB, hx])
        clear hx
        go_enter Tryz.func38, Tryz.ntmps38
        go_wp2_with fail
        go_ret
        exact ⟨ret_b HR.out, (Below.refl _ _).alloc (Nat.le_refl _) _⟩
    · have h0b : (n == 0) = false := by simpa using h0
      have h0n : (n != 0) = true := by simpa using h0
      have h1b : (n == 1) = false := by simpa using h1
      have h1n : (n != 1) = true := by simpa using h1
      have HR := Lib.hid (show false = rightB ⟨2, n, t, l⟩ from by symm; simp [rightB, h0, h1])
      clear h0 h1
      go_enter Tryz.func38, Tryz.ntmps38
      go_wp2_with fail
      go_ret
      exact ⟨ret_b HR.out, (Below.refl _ _).alloc (Nat.le_refl _) _⟩
set_option maxRecDepth 100000 in
set_option maxHeartbeats 1600000 in
theorem refRight_3 (n : Int) (t : List UInt8) (l : List Int) (ok : VOk ⟨3, n, t, l⟩) (a : Option Addr) (cap : Nat) (w : World) :
    Calls Tryz.prog 38 #[valC ⟨3, n, t, l⟩ a cap] w fun e w' => e = .returned (.bool (rightB ⟨3, n, t, l⟩)) ∧ Below w.heap.size w w' := by
  have hts : (S t).size = t.length := S_size t
  have ht1 := ok.text
  have hl1 := ok.list
  simp only at ht1 hl1
  have hti : (t.length : Int) ≤ 9223372036854775807 := by omega
  unfold valC
  simp only
  clear ok
  by_cases h0 : n = 0
  · subst h0
    by_cases hx : t.length ≤ 64
    · have hxi : (t.length : Int) ≤ 64 := by omega
      by_cases hy : l = []
      · subst hy
        have HR := Lib.hid (show true = rightB ⟨3, 0, t, []⟩ from by symm; simp [rightB, hx])
        go_enter Tryz.func38, Tryz.ntmps38
        go_wp2_with fail
        go_ret
        exact ⟨ret_b HR.out, (Below.refl _ _).alloc (Nat.le_refl _) _⟩
      · have hyi : 0 < l.length := List.length_pos_iff.2 hy
        have hyb : ((l.length : Int) == 0) = false := by simp; omega
        have hyc : (l.length == 0) = false := by simp; omega
        have HR := Lib.hid (show false = rightB ⟨3, 0, t, l⟩ from by symm; simp [rightB, hy, hx])
        clear hy
        go_enter Tryz.func38, Tryz.ntmps38
        go_wp2_with fail
        go_ret
        exact ⟨ret_b HR.out, (Below.refl _ _).alloc (Nat.le_refl _) _⟩
    · have hxi : ¬ (t.length : Int) ≤ 64 := by omega
      have hxj : 64 < t.length := by omega
      have HR := Lib.hid (show false = rightB ⟨3, 0, t, l⟩ from by symm; simp [rightB, hx])
      clear hx
      go_enter Tryz.func38, Tryz.ntmps38
      go_wp2_with fail
      go_ret
      exact ⟨ret_b HR.out, (Below.refl _ _).alloc (Nat.le_refl _) _⟩
  · have h0b : (n == 0) = false := by simpa using h0
    have h0n : (n != 0) = true := by simpa using h0
    have HR := Lib.hid (show false = rightB ⟨3, n, t, l⟩ from by symm; simp [rightB, h0])
    clear h0
    go_enter Tryz.func38, Tryz.ntmps38
    go_wp2_with fail
    go_ret
    exact ⟨ret_b HR.out, (Below.refl _ _).alloc (Nat.le_refl _) _⟩
set_option maxRecDepth 100000 in
set_option maxHeartbeats 1600000 in
theorem refRight_4 (n : Int) (t : List UInt8) (l : List Int) (ok : VOk ⟨4, n, t, l⟩) (a : Option Addr) (cap : Nat) (w : World) :
    Calls Tryz.prog 38 #[valC ⟨4, n, t, l⟩ a cap] w fun e w' => e = .returned (.bool (rightB ⟨4, n, t, l⟩)) ∧ Below w.heap.size w w' := by
  have hts : (S t).size = t.length := S_size t
  have ht1 := ok.text
  have hl1 := ok.list
  simp only at ht1 hl1
  have hti : (t.length : Int) ≤ 9223372036854775807 := by omega
  unfold valC
  simp only
  clear ok
  by_cases h0 : n = 0
  · subst h0
    have hnm := refName_any (S t) (by omega) (w.alloc (.cells #[.int .i64 4, .int .i64 0, .string (S t), .slice a l.length cap] 52))
    rw [S_toList] at hnm
    cases hx : nameB t with
    | true =>
      rw [hx] at hnm
      have HNM := Lib.hid hnm
      clear hnm
      by_cases hy : l = []
      · subst hy
        have HR := Lib.hid (show true = rightB ⟨4, 0, t, []⟩ from by symm; simp [rightB, hx])
        clear hx
        go_enter Tryz.func38, Tryz.ntmps38
        go_wp2_with fail
        refine HNM.out.mono ?_
        rintro e w' ⟨rfl, rfl⟩
        go_wp2_with fail
        go_ret
        exact ⟨ret_b HR.out, (Below.refl _ _).alloc (Nat.le_refl _) _⟩
      · have hyi : 0 < l.length := List.length_pos_iff.2 hy
        have hyb : ((l.length : Int) == 0) = false := by simp; omega
        have hyc : (l.length == 0) = false := by simp; omega
        have HR := Lib.hid (show false = rightB ⟨4, 0, t, l⟩ from by symm; simp [rightB, hy, hx])
        clear hy
        clear hx
        go_enter Tryz.func38, Tryz.ntmps38
        go_wp2_with fail
        refine HNM.out.mono ?_
        rintro e w' ⟨rfl, rfl⟩
        go_wp2_with fail
        go_ret
        exact ⟨ret_b HR.out, (Below.refl _ _).alloc (Nat.le_refl _) _⟩
    | false =>
      rw [hx] at hnm
      have HNM := Lib.hid hnm
      clear hnm
      have HR := Lib.hid (show false = rightB ⟨4, 0, t, l⟩ from by symm; simp [rightB, hx])
      clear hx
      go_enter Tryz.func38, Tryz.ntmps38
      go_wp2_with fail
      refine HNM.out.mono ?_
      rintro e w' ⟨rfl, rfl⟩
      go_wp2_with fail
      go_ret
      exact ⟨ret_b HR.out, (Below.refl _ _).alloc (Nat.le_refl _) _⟩
  · have h0b : (n == 0) = false := by simpa using h0
    have h0n : (n != 0) = true := by simpa using h0
    have HR := Lib.hid (show false = rightB ⟨4, n, t, l⟩ from by symm; simp [rightB, h0])
    clear h0
    go_enter Tryz.func38, Tryz.ntmps38
    go_wp2_with fail
    go_ret
    exact ⟨ret_b HR.out, (Below.refl _ _).alloc (Nat.le_refl _) _⟩
set_option maxRecDepth 100000 in
set_option maxHeartbeats 1600000 in
theorem refRight_5 (n : Int) (t : List UInt8) (l : List Int) (ok : VOk ⟨5, n, t, l⟩) (a : Option Addr) (cap : Nat) (w : World) :
    Calls Tryz.prog 38 #[valC ⟨5, n, t, l⟩ a cap] w fun e w' => e = .returned (.bool (rightB ⟨5, n, t, l⟩)) ∧ Below w.heap.size w w' := by
  have hts : (S t).size = t.length := S_size t
  have ht1 := ok.text
  have hl1 := ok.list
  simp only at ht1 hl1
  have hti : (t.length : Int) ≤ 9223372036854775807 := by omega
  unfold valC
  simp only
  clear ok
  by_cases h0 : n = 0
  · subst h0
    by_cases hx : t = []
    · subst hx
      have hx0 : (S []).size = 0 := rfl
      clear hts ht1 hti
      by_cases hy : l.length ≤ 16
      · have hyi : (l.length : Int) ≤ 16 := by omega
        have HR := Lib.hid (show true = rightB ⟨5, 0, [], l⟩ from by symm; simp [rightB, hy])
        clear hy
        go_enter Tryz.func38, Tryz.ntmps38
        go_wp2_with fail
        go_ret
        exact ⟨ret_b HR.out, (Below.refl _ _).alloc (Nat.le_refl _) _⟩
      · have hyi : ¬ (l.length : Int) ≤ 16 := by omega
        have hyj : 16 < l.length := by omega
        have HR := Lib.hid (show false = rightB ⟨5, 0, [], l⟩ from by symm; simp [rightB, hy])
        clear hy
        go_enter Tryz.func38, Tryz.ntmps38
        go_wp2_with fail
        go_ret
        exact ⟨ret_b HR.out, (Below.refl _ _).alloc (Nat.le_refl _) _⟩
    · have hxi : 0 < t.length := List.length_pos_iff.2 hx
      have HR := Lib.hid (show false = rightB ⟨5, 0, t, l⟩ from by symm; simp [rightB, hx])
      clear hx
      go_enter Tryz.func38, Tryz.ntmps38
      go_wp2_with fail
      go_ret
      exact ⟨ret_b HR.out, (Below.refl _ _).alloc (Nat.le_refl _) _⟩
  · have h0b : (n == 0) = false := by simpa using h0
    have h0n : (n != 0) = true := by simpa using h0
    have HR := Lib.hid (show false = rightB ⟨5, n, t, l⟩ from by symm; simp [rightB, h0])
    clear h0
    go_enter Tryz.func38, Tryz.ntmps38
    go_wp2_with fail
    go_ret
    exact ⟨ret_b HR.out, (Below.refl _ _).alloc (Nat.le_refl _) _⟩
set_option maxRecDepth 100000 in
theorem refRight_any (v : V) (ok : VOk v) (a : Option Addr) (cap : Nat) (w : World) :
    Calls Tryz.prog 38 #[valC v a cap] w fun e w' => e = .returned (.bool (rightB v)) ∧ Below w.heap.size w w' := by
  obtain ⟨k, n, t, l⟩ := v
  by_cases hk : 0 ≤ k ∧ k ≤ 5
  · obtain rfl | rfl | rfl | rfl | rfl | rfl : k = 0 ∨ k = 1 ∨ k = 2 ∨ k = 3 ∨ k = 4 ∨ k = 5 := by omega
    · exact refRight_0 n t l ok a cap w
    · exact refRight_1 n t l ok a cap w
    · exact refRight_2 n t l ok a cap w
    · exact refRight_3 n t l ok a cap w
    · exact refRight_4 n t l ok a cap w
    · exact refRight_5 n t l ok a cap w
  · have HR := Lib.hid (show false = rightB ⟨k, n, t, l⟩ from by symm; simp [rightB]; omega)
    by_cases h0 : k < 0
    · unfold valC
      simp only
      clear ok hk
      go_enter Tryz.func38, Tryz.ntmps38
      go_wp2_with fail
      go_ret
      exact ⟨ret_b HR.out, (Below.refl _ _).alloc (Nat.le_refl _) _⟩
    · have h5 : 5 < k := by omega
      unfold valC
      simp only
      clear ok hk
      go_enter Tryz.func38, Tryz.ntmps38
      go_wp2_with fail
      go_ret
      exact ⟨ret_b HR.out, (Below.refl _ _).alloc (Nat.le_refl _) _⟩
end Go.Proofs.YtabbdkdpmpjchaaGreatDoor.Va

namespace Go.Proofs.YtabbdkdpmpjchaaGreatDoor.Va
open Go.RowKit
theorem less_T : ∀ (a b : List UInt8), a ≠ b → ordT a b = if Op.bytesLess a b = true then -1 else 1
  | [], [], h => absurd rfl h
  | [], _ :: _, _ => by simp [ordT, Op.bytesLess]
  | _ :: _, [], _ => by simp [ordT, Op.bytesLess]
  | a :: r, b :: s, h => by
    unfold ordT Op.bytesLess
    by_cases e : a = b
    · subst e
      have h2 : r ≠ s := fun e => h (by rw [e])
      rw [if_pos rfl, less_T r s h2]
      have : ¬ a < a := UInt8.lt_irrefl a
      simp [this]
    · rw [if_neg e]
      have e1 : (a == b) = false := by simpa using e
      rw [e1]
      have e2 : a.toNat ≠ b.toNat := fun h => e (UInt8.toNat_inj.1 h)
      unfold ordI
      by_cases hl : a < b
      · have := UInt8.lt_iff_toNat_lt.1 hl
        rw [if_pos (by omega)]; simp [hl]
      · have : ¬ a.toNat < b.toNat := fun h => hl (UInt8.lt_iff_toNat_lt.2 h)
        rw [if_neg (by omega), if_pos (by omega)]; simp [hl]
def preB (x y : List Int) (k : Nat) : Bool := x.take k == y.take k
theorem preB_zero (x y : List Int) : preB x y 0 = true := by simp [preB]
theorem preB_succ (x y : List Int) (k : Nat) (hx : k < x.length) (hy : k < y.length) : preB x y (k + 1) = (preB x y k && x.getD k 0 == y.getD k 0) := by
  unfold preB
  rw [Bool.eq_iff_iff]
  simp only [beq_iff_eq, Bool.and_eq_true]
  rw [List.take_succ_eq_append_getElem hx, List.take_succ_eq_append_getElem hy]
  have e1 : x.getD k 0 = x[k] := by simp [List.getD, hx]
  have e2 : y.getD k 0 = y[k] := by simp [List.getD, hy]
  rw [e1, e2]
  constructor
  · intro h
    have := List.append_inj h (by simp; omega)
    exact ⟨this.1, by simpa using this.2⟩
  · rintro ⟨h1, h2⟩; rw [h1, h2]
theorem preB_all (x y : List Int) (h : x.length = y.length) : preB x y x.length = (x == y) := by unfold preB; rw [List.take_length, h, List.take_length]
theorem preB_false (x y : List Int) (k : Nat) (h : preB x y k = false) : (x == y) = false := by
  unfold preB at h
  simp only [beq_eq_false_iff_ne, ne_eq] at h ⊢
  exact fun e => h (by rw [e])
theorem ordL_pre : ∀ (x y : List Int) (k : Nat), k ≤ x.length → k ≤ y.length → preB x y k = true → ordL x y = ordL (x.drop k) (y.drop k)
  | _, _, 0, _, _, _ => rfl
  | [], _, k + 1, h, _, _ => by simp at h
  | _ :: _, [], k + 1, _, h, _ => by simp at h
  | a :: r, b :: s, k + 1, h1, h2, h => by
    simp only [preB, List.take_succ_cons, beq_iff_eq, List.cons.injEq] at h
    show (if a = b then ordL r s else _) = ordL (r.drop k) (s.drop k)
    rw [if_pos h.1]
    exact ordL_pre r s k (by simpa using h1) (by simpa using h2) (by simp [preB, h.2])
theorem ordL_at (x y : List Int) (k : Nat) (hx : k < x.length) (hy : k < y.length) (h : preB x y k = true) (hne : x.getD k 0 ≠ y.getD k 0) : ordL x y = ordI (x.getD k 0) (y.getD k 0) := by
  rw [ordL_pre x y k (by omega) (by omega) h, List.drop_eq_getElem_cons hx, List.drop_eq_getElem_cons hy]
  have e1 : x.getD k 0 = x[k] := by simp [List.getD, hx]
  have e2 : y.getD k 0 = y[k] := by simp [List.getD, hy]
  rw [e1, e2] at hne ⊢
  show (if x[k] = y[k] then _ else _) = _
  rw [if_neg hne]
theorem ordL_end (x y : List Int) (k : Nat) (hx : k ≤ x.length) (hy : k ≤ y.length) (he : k = x.length ∨ k = y.length) (h : preB x y k = true) : ordL x y = ordI x.length y.length := by
  rw [ordL_pre x y k hx hy h]
  rcases he with e | e
  · rw [e, List.drop_length]
    by_cases h2 : x.length = y.length
    · rw [h2, List.drop_length]; simp [ordL, ordI]
    · have : y.drop x.length ≠ [] := fun e2 => by have := congrArg List.length e2; simp at this; omega
      cases hd : y.drop x.length with
      | nil => exact absurd hd this
      | cons => unfold ordI; rw [if_pos (by omega)]; rfl
  · rw [e, List.drop_length]
    by_cases h2 : x.length = y.length
    · rw [← h2, List.drop_length]; simp [ordL, ordI]
    · have : x.drop y.length ≠ [] := fun e2 => by have := congrArg List.length e2; simp at this; omega
      cases hd : x.drop y.length with
      | nil => exact absurd hd this
      | cons => unfold ordI; rw [if_neg (by omega), if_pos (by omega)]; rfl
def sameV (a b : V) : Bool := a.kind == b.kind && a.num == b.num && a.text == b.text && a.list == b.list
theorem sameV_iff (a b : V) : sameV a b = true ↔ a = b := by
  obtain ⟨k, n, t, l⟩ := a
  obtain ⟨k', n', t', l'⟩ := b
  simp [sameV, and_assoc]
theorem S_beq (t t' : List UInt8) : ((S t).toList == (S t').toList) = (t == t') := by rw [ByteArray.toList_eq, ByteArray.toList_eq, S_toList, S_toList]
theorem S_less (t t' : List UInt8) : Op.bytesLess (S t).toList (S t').toList = Op.bytesLess t t' := by rw [ByteArray.toList_eq, ByteArray.toList_eq, S_toList, S_toList]
theorem lt_of_heapV {w : World} {k : Nat} {o : Obj} (h : w.heap[k]? = some o) : k < w.heap.size := by
  rw [Array.getElem?_eq_some_iff] at h
  exact h.1
def boxO (k n : Int) (t : List UInt8) (len : Nat) (a : Option Addr) (cap : Nat) : Obj := .cells #[.int .i64 k, .int .i64 n, .string (S t), .slice a len cap] 52
def SameR (w W0 : World) (x y : List Int) (k : Nat) (ok : Bool) (wr : World) : Prop := k ≤ x.length ∧ ok = preB x y k ∧ Below W0.heap.size W0 wr ∧ Below w.heap.size w wr
set_option linter.unusedSimpArgs false
set_option maxRecDepth 100000 in
set_option maxHeartbeats 3200000 in
theorem refSame_any (x y : V) (okx : VOk x) (oky : VOk y) (ax ay : Option Addr) (cx cy : Nat) (w : World) (hx : NumsAt w ax x.list) (hy : NumsAt w ay y.list) :
    Calls Tryz.prog 20 #[valC x ax cx, valC y ay cy] w fun e w' => e = .returned (.bool (sameV x y)) ∧ Below w.heap.size w w' := by
  obtain ⟨k, n, t, l⟩ := x
  obtain ⟨k', n', t', l'⟩ := y
  have hB0 := ((Below.refl w.heap.size w).alloc (Nat.le_refl _) (boxO k n t l.length ax cx)).alloc (by simp) (boxO k' n' t' l'.length ay cy)
  have HB0 := Lib.hid hB0
  have hl1 := okx.list
  have hl2 := oky.list
  simp only at hl1 hl2 hx hy
  have HX := Lib.hid hx
  have HY := Lib.hid hy
  clear okx oky hx hy hB0
  by_cases h1 : k = k' ∧ n = n' ∧ t = t' ∧ l.length = l'.length
  · obtain ⟨rfl, rfl, rfl, hlen⟩ := h1
    have hB1 := HB0.out
    rw [← hlen] at hB1
    have HB1 := Lib.hid hB1
    clear hB1
    have hR : ∀ j, j ≤ l.length → (preB l l' j = false ∨ j = l.length) → preB l l' j = sameV ⟨k, n, t, l⟩ ⟨k, n, t, l'⟩ := fun j hj h => by
      simp only [sameV, beq_self_eq_true, Bool.true_and]
      rcases h with h | h
      · rw [h, preB_false l l' j h]
      · rw [h, preB_all l l' hlen]
    have HR := Lib.hid hR
    have HLEN := Lib.hid hlen
    have hbox0 := heap_alloc_new w (boxO k n t l.length ax cx)
    have hbox1 := heap_alloc_new (w.alloc (boxO k n t l.length ax cx)) (boxO k n t l.length ay cy)
    have hbox0' : ((w.alloc (boxO k n t l.length ax cx)).alloc (boxO k n t l.length ay cy)).heap[w.heap.size]? = some (boxO k n t l.length ax cx) := by
      rw [Below.heap_alloc _ _ _ (by simp)]; exact hbox0
    have hsz : (w.alloc (boxO k n t l.length ax cx)).heap.size = w.heap.size + 1 := by simp
    rw [hsz] at hbox1
    have HX0 := Lib.hid hbox0'
    have HX1 := Lib.hid hbox1
    have hll : (l'.length : Int) = (l.length : Int) := by omega
    unfold valC
    simp only
    rw [← hlen]
    clear hR hlen hbox0 hbox1 hbox0' hsz hll
    go_enter Tryz.func20, Tryz.ntmps20
    go_wp2_with fail
    go_loopw [5, 6] (fun ok i wr => ∃ j : Nat, ∃ b : Bool, i = .int .i64 j ∧ ok = .bool b ∧ SameR w ((w.alloc (boxO k n t l.length ax cx)).alloc (boxO k n t l.length ay cy)) l l' j b wr) (fun _ i _ => l.length - (intOf i).toNat)
    case atStart => exact ⟨0, true, rfl, rfl, by omega, (preB_zero l l').symm, Below.refl _ _, HB1.out⟩
    case round =>
      obtain ⟨j, b, rfl, rfl, hj, hb, hb0, hbw⟩ := hrel
      have HB := Lib.hid hb
      have HBB := Lib.hid hb0
      have HBW := Lib.hid hbw
      have hx0 := (hb0.block w.heap.size (lt_of_heapV HX0.out)).trans HX0.out
      have hx1 := (hb0.block (w.heap.size + 1) (lt_of_heapV HX1.out)).trans HX1.out
      have p0 : wr.cell? ⟨w.heap.size, 3, none⟩ = some (.slice ax l.length cx) := (cell_of_row wr _ 3 _ _ (0, 0) hx0).trans rfl
      have p1 : wr.cell? ⟨w.heap.size + 1, 3, none⟩ = some (.slice ay l.length cy) := (cell_of_row wr _ 3 _ _ (0, 0) hx1).trans rfl
      clear hb hb0 hbw hx0 hx1
      cases b with
      | false =>
        have hf := HR.out j hj (.inl HB.out.symm)
        rw [← HB.out] at hf
        have HF := Lib.hid hf
        clear hf
        go_wp2_with fail
        go_ret
        exact ⟨ret_b HF.out, HBW.out⟩
      | true =>
        by_cases hlt : j < l.length
        · obtain ⟨g1, o1, rfl, q1, hg1⟩ := HX.out j hlt
          obtain ⟨g2, o2, rfl, q2, hg2⟩ := HY.out j (by rw [← HLEN.out]; exact hlt)
          have r1 := (HBW.out.cell (p := ⟨g1, o1 + j, none⟩) hg1).trans q1
          have r2 := (HBW.out.cell (p := ⟨g2, o2 + j, none⟩) hg2).trans q2
          have hn := preB_succ l l' j hlt (by rw [← HLEN.out]; exact hlt)
          rw [← HB.out, Bool.true_and] at hn
          have HN := Lib.hid hn
          have hji : (j : Int) < (l.length : Int) := by omega
          generalize l.getD j 0 = u at *
          generalize l'.getD j 0 = u' at *
          clear hn q1 q2
          go_wp2_with fail
          go_region_held3 (fun w' => w'.cell? ⟨w.heap.size, 3, none⟩ = some (.slice (some ⟨g1, o1, none⟩) l.length cx) ∧ w'.cell? ⟨w.heap.size + 1, 3, none⟩ = some (.slice (some ⟨g2, o2, none⟩) l.length cy) ∧ w'.cell? ⟨g1, o1 + j, none⟩ = some (.int .i64 u) ∧ w'.cell? ⟨g2, o2 + j, none⟩ = some (.int .i64 u'))
            (first | assumption | go_keep) (fail)
          go_wp2_with fail
          go_roundw
          case rel => exact ⟨j + 1, u == u', by go_num, by first | rfl | simp, by omega, HN.out.symm, ⟨HBB.out.os, HBB.out.tape, HBB.out.output, HBB.out.size, HBB.out.block⟩, ⟨HBW.out.os, HBW.out.tape, HBW.out.output, HBW.out.size, HBW.out.block⟩⟩
          case measure => simp [intOf]; omega
        · obtain rfl : j = l.length := by omega
          have hf := HR.out l.length (Nat.le_refl _) (.inr rfl)
          rw [← HB.out] at hf
          have HF := Lib.hid hf
          clear hf
          go_wp2_with fail
          go_ret
          exact ⟨ret_b HF.out, HBW.out⟩
  · have hF : false = sameV ⟨k, n, t, l⟩ ⟨k', n', t', l'⟩ := by
      cases e : sameV ⟨k, n, t, l⟩ ⟨k', n', t', l'⟩ with
      | false => rfl
      | true =>
        have := (sameV_iff _ _).1 e
        simp only [V.mk.injEq] at this
        exact absurd ⟨this.1, this.2.1, this.2.2.1, by rw [this.2.2.2]⟩ h1
    have HF := Lib.hid hF
    unfold valC
    simp only
    clear hF
    by_cases hk : k = k'
    · subst hk
      by_cases hn : n = n'
      · subst hn
        by_cases ht : t = t'
        · subst ht
          have hl : ¬ l.length = l'.length := fun e => h1 ⟨rfl, rfl, rfl, e⟩
          have e1 : ((l.length : Int) == (l'.length : Int)) = false := by simp; omega
          have e2 : (l.length == l'.length) = false := by simpa using hl
          clear h1 hl
          go_enter Tryz.func20, Tryz.ntmps20
          go_wp2_with fail
          refine wp_loop_rounds 1 ?_
          rw [rounds_succ]
          go_wp2_with fail
          go_ret
          exact ⟨ret_b HF.out, HB0.out⟩
        · have e1 : ((S t).toList == (S t').toList) = false := by rw [S_beq]; simpa using ht
          clear h1 ht
          go_enter Tryz.func20, Tryz.ntmps20
          go_wp2_with fail
          refine wp_loop_rounds 1 ?_
          rw [rounds_succ]
          go_wp2_with fail
          go_ret
          exact ⟨ret_b HF.out, HB0.out⟩
      · have e1 : (n == n') = false := by simpa using hn
        clear h1 hn
        go_enter Tryz.func20, Tryz.ntmps20
        go_wp2_with fail
        refine wp_loop_rounds 1 ?_
        rw [rounds_succ]
        go_wp2_with fail
        go_ret
        exact ⟨ret_b HF.out, HB0.out⟩
    · have e1 : (k == k') = false := by simpa using hk
      clear h1 hk
      go_enter Tryz.func20, Tryz.ntmps20
      go_wp2_with fail
      refine wp_loop_rounds 1 ?_
      rw [rounds_succ]
      go_wp2_with fail
      go_ret
      exact ⟨ret_b HF.out, HB0.out⟩
end Go.Proofs.YtabbdkdpmpjchaaGreatDoor.Va

namespace Go.Proofs.YtabbdkdpmpjchaaGreatDoor.Va
open Go.RowKit
theorem ret_i {a b : Int} (h : a = b) : Ending.returned (.int .i64 a) = .returned (.int .i64 b) := by rw [h]
set_option linter.unusedSimpArgs false
end Go.Proofs.YtabbdkdpmpjchaaGreatDoor.Va

namespace Go.Proofs.YtabbdkdpmpjchaaGreatDoor.Va
open Go.RowKit
theorem ret_s {a b : ByteArray} (h : a = b) : Ending.returned (.string a) = .returned (.string b) := by rw [h]
theorem digs_small (n : Nat) (h : n < 10) : digs n = [UInt8.ofNat (48 + n)] := by rw [digs, dif_pos h]
theorem digs_big (n : Nat) (h : ¬ n < 10) : digs n = digs (n / 10) ++ [UInt8.ofNat (48 + n % 10)] := by rw [digs, dif_neg h]
theorem digs_len (n : Nat) : ∀ k, n < 10 ^ (k + 1) → (digs n).length ≤ k + 1 := by
  induction n using Nat.strongRecOn with
  | ind n ih =>
    intro k hk
    by_cases h : n < 10
    · rw [digs_small n h]; simp
    · rw [digs_big n h, List.length_append]
      cases k with
      | zero => omega
      | succ k =>
        have := ih (n / 10) (by omega) k (by rw [Nat.pow_succ] at hk; omega)
        simp; omega
theorem digs_len19 (n : Nat) (h : n ≤ 9223372036854775808) : (digs n).length ≤ 19 := digs_len n 18 (by omega)
set_option maxRecDepth 100000 in
set_option maxHeartbeats 1600000 in
theorem dec_nat (m : Nat) : ∀ (n : Nat) (w : World), n ≤ m → n ≤ 9223372036854775807 →
    Calls Tryz.prog 70 #[.int .i64 (n : Int)] w fun e w' => e = .returned (.string (S (digs n))) ∧ Below w.heap.size w w' := by
  induction m using Nat.strongRecOn with
  | ind m ih =>
    intro n w hnm hn
    have hc : (UInt8.ofNat (48 + n % 10)).toNat = 48 + n % 10 := dig_nat _ (by omega)
    have hbs := byte_string w (UInt8.ofNat (48 + n % 10)) (48 + (n : Int) % 10) (by rw [hc]; omega)
    have hw8 : IntKind.u8.wrap (48 + (n : Int) % 10) = 48 + (n : Int) % 10 := by rw [IntKind.wrap_u8]; omega
    have h0 : ¬ (n : Int) < 0 := by omega
    have h0' : (0 : Int) ≤ (n : Int) := by omega
    have hni : (n : Int) ≤ 9223372036854775807 := by omega
    have hr1 : (0 : Int) ≤ (n : Int) % 10 := by omega
    have hr2 : (n : Int) % 10 ≤ 9 := by omega
    have hB := (Below.refl w.heap.size w).alloc (Nat.le_refl _) (.cells #[.int .u8 (48 + (n : Int) % 10)] 5)
    have HB := Lib.hid hB
    by_cases h : n < 10
    · have hd := digs_small n h
      have e1 : n % 10 = n := by omega
      rw [e1] at hbs
      generalize UInt8.ofNat (48 + n) = c at *
      have HD := Lib.hid hd.symm
      have hi : (n : Int) < 10 := by omega
      have hi2 : ¬ (10 : Int) ≤ (n : Int) := by omega
      clear hd hB hc e1 ih
      go_enter Tryz.func70, Tryz.ntmps70
      go_wp2_with fail
      go_ret
      exact ⟨ret_s (by rw [← HD.out]), HB.out⟩
    · have hd := digs_big n h
      have hdiv : ((n / 10 : Nat) : Int) = (n : Int) / 10 := by omega
      have hq := ih (n / 10) (by omega) (n / 10) (w.alloc (.cells #[.int .u8 (48 + (n : Int) % 10)] 5)) (Nat.le_refl _) (by omega)
      rw [hdiv] at hq
      have hln := digs_len19 (n / 10) (by omega)
      have hs1 : (S (digs (n / 10))).size ≤ 19 := by rw [S_size]; exact hln
      have hs2 : (S [UInt8.ofNat (48 + n % 10)]).size = 1 := rfl
      have hres : S (digs (n / 10)) ++ S [UInt8.ofNat (48 + n % 10)] = S (digs n) := by rw [S_append, hd]
      have HQ := Lib.hid hq
      have HRES := Lib.hid hres
      generalize S (digs (n / 10)) = a at *
      generalize S [UInt8.ofNat (48 + n % 10)] = b at *
      have hadd : ∀ w, (Op.stringOp .add a b).run Tryz.prog w = .ok (.string (a ++ b)) w := fun w => run_string_add_sum w a b (by omega)
      have hi2 : (10 : Int) ≤ (n : Int) := by omega
      clear hd hB hc ih hq hdiv hres h hnm hln
      go_enter Tryz.func70, Tryz.ntmps70
      go_wp2_with fail
      refine HQ.out.mono ?_
      rintro e w1 ⟨rfl, b1⟩
      have HB1 := Lib.hid (HB.out.trans (b1.mono (by simp)))
      clear b1
      go_wp2_with fail
      go_ret
      exact ⟨ret_s HRES.out, HB1.out⟩
set_option maxRecDepth 100000 in
set_option maxHeartbeats 1600000 in
theorem dec_any (n : Int) (w : World) (h1 : -9223372036854775808 ≤ n) (h2 : n ≤ 9223372036854775807) :
    Calls Tryz.prog 70 #[.int .i64 n] w fun e w' => e = .returned (.string (S (decZ n))) ∧ Below w.heap.size w w' := by
  by_cases h0 : n < 0
  · obtain ⟨m, rfl⟩ : ∃ m : Nat, n = -(m : Int) := ⟨n.natAbs, by omega⟩
    have e : decZ (-(m : Int)) = 45 :: digs m := by unfold decZ; rw [if_pos h0]; simp
    rw [e]
    clear e
    have hq : (-(m : Int)).tdiv 10 = -((m / 10 : Nat) : Int) := by rw [Int.neg_tdiv, Int.tdiv_eq_ediv_of_nonneg (by omega)]; omega
    have hr : (-(m : Int)).tmod 10 = -((m % 10 : Nat) : Int) := by rw [Int.neg_tmod, Int.tmod_eq_emod_of_nonneg (by omega)]; omega
    have hd2 := dec_nat (m % 10) (m % 10)
    have hl2 := digs_len19 (m % 10) (by omega)
    have hs3 : (S (digs (m % 10))).size ≤ 19 := by rw [S_size]; exact hl2
    by_cases hm : m < 10
    · have e0 : m / 10 = 0 := by omega
      have e1 : m % 10 = m := by omega
      rw [e0] at hq
      rw [e1] at hr hd2 hs3
      have hres : S [45] ++ S (digs m) = S (45 :: digs m) := by rw [S_append]; rfl
      have hadd1 : ∀ w, (Op.stringOp .add ⟨#[45]⟩ ⟨#[]⟩).run Tryz.prog w = .ok (.string (S [45])) w := fun w => run_string_add_sum w _ _ (by decide)
      have hadd2 : ∀ w, (Op.stringOp .add (S [45]) (S (digs m))).run Tryz.prog w = .ok (.string (S (45 :: digs m))) w := fun w => by
        rw [run_string_add_sum w _ _ (by have : (S [45]).size = 1 := rfl; omega), hres]
      have HD2 := Lib.hid hd2
      have hmi : (m : Int) ≤ 9 := by omega
      have hq0 : (-(m : Int)).tdiv 10 = 0 := by rw [hq]; rfl
      have hmn : m ≤ 9223372036854775807 := by omega
      generalize S (45 :: digs m) = out at *
      generalize S (digs m) = a at *
      generalize S [45] = mi at *
      clear hq hres hd2 hl2 e0 e1 hm
      go_enter Tryz.func70, Tryz.ntmps70
      go_wp2_with fail
      refine (HD2.out _ (Nat.le_refl _) hmn).mono ?_
      rintro e w1 ⟨rfl, b1⟩
      have HB1 := Lib.hid b1
      clear b1
      go_wp2_with fail
      go_ret
      exact ⟨ret_s rfl, HB1.out⟩
    · have hd1 := dec_nat (m / 10) (m / 10)
      have hl1 := digs_len19 (m / 10) (by omega)
      have hs4 : (S (digs (m / 10))).size ≤ 19 := by rw [S_size]; exact hl1
      have hdig : digs m = digs (m / 10) ++ digs (m % 10) := by rw [digs_big m hm, digs_small (m % 10) (by omega)]
      have hres1 : S [45] ++ S (digs (m / 10)) = S (45 :: digs (m / 10)) := by rw [S_append]; rfl
      have hres2 : S (45 :: digs (m / 10)) ++ S (digs (m % 10)) = S (45 :: digs m) := by rw [S_append, hdig]; rfl
      have hs5 : (S (45 :: digs (m / 10))).size ≤ 20 := by rw [S_size, List.length_cons]; omega
      have hadd1 : ∀ w, (Op.stringOp .add ⟨#[45]⟩ (S (digs (m / 10)))).run Tryz.prog w = .ok (.string (S (45 :: digs (m / 10)))) w := fun w => by
        rw [run_string_add_sum w _ _ (by have : (⟨#[45]⟩ : ByteArray).size = 1 := rfl; omega)]
        exact congrArg (fun x => Result.ok (Value.string x) w) hres1
      have hadd2 : ∀ w, (Op.stringOp .add (S (45 :: digs (m / 10))) (S (digs (m % 10)))).run Tryz.prog w = .ok (.string (S (45 :: digs m))) w := fun w => by
        rw [run_string_add_sum w _ _ (by omega), hres2]
      have HD1 := Lib.hid hd1
      have HD2 := Lib.hid hd2
      have hm1 : m / 10 ≤ 9223372036854775807 := by omega
      have hm2 : m % 10 ≤ 9223372036854775807 := by omega
      have hne : ((-((m / 10 : Nat) : Int)) == 0) = false := by simp; omega
      have hne2 : ((-((m / 10 : Nat) : Int)) != 0) = true := by simp; omega
      have hp1 : 0 < m / 10 := by omega
      generalize S (45 :: digs m) = out at *
      generalize S (45 :: digs (m / 10)) = mid at *
      generalize S (digs (m / 10)) = a at *
      generalize S (digs (m % 10)) = b at *
      generalize m / 10 = q at *
      generalize m % 10 = r at *
      have hqn : (q : Int) ≤ 9223372036854775807 := by omega
      have hrn : (r : Int) ≤ 9223372036854775807 := by omega
      have hq1 : 1 ≤ (q : Int) := by omega
      have hq2 : ¬ q = 0 := by omega
      clear hres1 hres2 hd1 hd2 hl1 hl2 hdig hm
      go_enter Tryz.func70, Tryz.ntmps70
      go_wp2_with fail
      refine (HD1.out _ (Nat.le_refl _) hm1).mono ?_
      rintro e w1 ⟨rfl, b1⟩
      have HB1 := Lib.hid b1
      clear b1
      go_wp2_with fail
      refine (HD2.out _ (Nat.le_refl _) hm2).mono ?_
      rintro e w2 ⟨rfl, b2⟩
      have HB2 := Lib.hid (two HB1.out b2)
      clear b2
      go_wp2_with fail
      go_ret
      exact ⟨ret_s rfl, HB2.out⟩
  · obtain ⟨m, rfl⟩ : ∃ m : Nat, n = (m : Int) := ⟨n.toNat, by omega⟩
    have e : decZ (m : Int) = digs m := by unfold decZ; rw [if_neg h0]; simp
    rw [e]
    exact dec_nat m m w (Nat.le_refl _) (by omega)
end Go.Proofs.YtabbdkdpmpjchaaGreatDoor.Va

namespace Go.Proofs.YtabbdkdpmpjchaaGreatDoor.Va
open Go.RowKit
def u8C (l : List UInt8) : List Value := l.map fun c => .int .u8 (c.toNat : Int)
structure Buf (B : Nat) (W0 wr : World) (v : Value) (l : List UInt8) : Prop where
  own : wr.ownsRow B 5 1 v l.length (u8C l)
  below : Below B W0 wr
  hi : B ≤ wr.heap.size
theorem Buf.step {B : Nat} {W0 wr w' : World} {v v' : Value} {l : List UInt8} {c : UInt8} {x : Int} {o : Obj} (h : Buf B W0 wr v l) (hx : x = (c.toNat : Int)) (own : w'.ownsRow B 5 1 v' (l.length + 1) (u8C l ++ [.int .u8 x])) (gr : (wr.alloc o).grownBy w' v.ownBlock) : Buf B W0 w' v' (l ++ [c]) := by
  subst hx
  have hs := h.hi
  refine ⟨?_, (h.below.alloc hs o).grown gr (by simp; omega) (fun k hk => (h.own.lt k hk).1), ?_⟩
  · rw [List.length_append]
    have e : u8C (l ++ [c]) = u8C l ++ [.int .u8 (c.toNat : Int)] := by simp [u8C]
    rw [e]; exact own
  · have := gr.size; simp at this; omega
theorem news_one (w : World) (x : Value) (T : TypeId) (H : Nat) (hH : w.heap.size = H) : ∀ j u, ([x] : List Value)[j]? = some u → (w.alloc (.cells #[x] T)).cell? ((⟨H, 0, none⟩ : Addr).add j) = some u := fun j u hu => by
  subst hH
  rw [Addr.add_mid, cell_of_row _ _ _ _ _ (0, 0) (heap_alloc_new w _), Nat.zero_add]; simpa using hu
theorem one_int (x : Int) : ∀ u ∈ ([.int .u8 x] : List Value), u.oneCell' = true := by
  intro u hu
  simp only [List.mem_singleton] at hu
  subst hu; rfl
theorem escT_len (t : List UInt8) : (escT t).length ≤ 4 * t.length := by
  induction t with
  | nil => simp [escT]
  | cons c t ih =>
    have e1 : escT (c :: t) = esc c ++ escT t := rfl
    have : (esc c).length ≤ 4 := by unfold esc; split <;> (try split) <;> simp
    rw [e1, List.length_append, List.length_cons]; omega
theorem escT_snoc (t : List UInt8) (k : Nat) (h : k < t.length) : escT (t.take (k + 1)) = escT (t.take k) ++ esc (t.getD k 0) := by
  unfold escT
  rw [List.take_succ_eq_append_getElem h, List.flatMap_append]
  simp [List.getD, h]
def HEX : ByteArray := ⟨#[48, 49, 50, 51, 52, 53, 54, 55, 56, 57, 97, 98, 99, 100, 101, 102]⟩
set_option maxRecDepth 100000 in
theorem run_hex (k : Nat) (h : k < 16) (w : World) : (Instr.index 9 (.string ⟨#[48, 49, 50, 51, 52, 53, 54, 55, 56, 57, 97, 98, 99, 100, 101, 102]⟩) (.int .u8 (k : Int))).run Tryz.prog w = .ok (.int .u8 ((hexC k).toNat : Int)) w := by
  have : ∀ i : Fin 16, ∀ w, (Instr.index 9 (.string ⟨#[48, 49, 50, 51, 52, 53, 54, 55, 56, 57, 97, 98, 99, 100, 101, 102]⟩) (.int .u8 (i.val : Int))).run Tryz.prog w = .ok (.int .u8 ((hexC i.val).toNat : Int)) w := by
    intro i w
    match i with
    | ⟨0, _⟩ => rfl
    | ⟨1, _⟩ => rfl
    | ⟨2, _⟩ => rfl
    | ⟨3, _⟩ => rfl
    | ⟨4, _⟩ => rfl
    | ⟨5, _⟩ => rfl
    | ⟨6, _⟩ => rfl
    | ⟨7, _⟩ => rfl
    | ⟨8, _⟩ => rfl
    | ⟨9, _⟩ => rfl
    | ⟨10, _⟩ => rfl
    | ⟨11, _⟩ => rfl
    | ⟨12, _⟩ => rfl
    | ⟨13, _⟩ => rfl
    | ⟨14, _⟩ => rfl
    | ⟨15, _⟩ => rfl
    | ⟨k + 16, h⟩ => omega
  exact this ⟨k, h⟩ w
set_option linter.unusedSimpArgs false
set_option maxRecDepth 100000 in
set_option maxHeartbeats 3200000 in
theorem refPrint_text (n : Int) (t : List UInt8) (l : List Int) (ht : t.length ≤ 100000) (a : Option Addr) (cap : Nat) (w : World) :
    Calls Tryz.prog 71 #[valC ⟨3, n, t, l⟩ a cap] w fun e w' => e = .returned (.string (S (34 :: (escT t ++ [34])))) ∧ Below w.heap.size w w' := by
  obtain ⟨i0, hi, hz0, hz1, hz2⟩ := info_parts info8
  have hts : (S t).size = t.length := S_size t
  have hti : (t.length : Int) ≤ 100000 := by omega
  have HW0 := Lib.hid ((Below.refl w.heap.size w).alloc (Nat.le_refl _) (.cells #[.int .i64 3, .int .i64 n, .string (S t), .slice a l.length cap] 52))
  have HBOX := Lib.hid (heap_alloc_new w (.cells #[.int .i64 3, .int .i64 n, .string (S t), .slice a l.length cap] 52))
  have HB0 := Lib.hid (show Buf (w.heap.size + 1) (w.alloc (.cells #[.int .i64 3, .int .i64 n, .string (S t), .slice a l.length cap] 52)) (w.alloc (.cells #[.int .i64 3, .int .i64 n, .string (S t), .slice a l.length cap] 52)) (.slice none 0 0) [] from ⟨World.ownsRow_nil _ _ _ _, Below.refl _ _, by simp⟩)
  unfold valC
  simp only
  go_enter Tryz.func71, Tryz.ntmps71
  go_wp2_with (at_builtin; refine wpList_append_own _ rfl _ _ 71 rfl (w.heap.size + 1) 5 i0 _ 1 1 Tryz.underlying71 hi hz0 hz1 hz2 rfl (by omega) _ _ _ rfl (HB0.out.own.alloc _) ⟨_, 0, none⟩ 1 1 [.int .u8 34] rfl rfl (news_one _ _ _ _ (by first | rfl | simp)) (one_int _) (by decide) (by decide) (Nat.le_trans HB0.out.hi (by simp)) ?_; intro v1 w1 hown hgrow _; have HB1 := Lib.hid (HB0.out.step (c := 34) (by rfl) hown hgrow); clear hown hgrow)
  have hbuf : Buf (w.heap.size + 1) (w.alloc (.cells #[.int .i64 3, .int .i64 n, .string (S t), .slice a l.length cap] 52)) w1 v1 (34 :: escT (t.take 0)) := HB1.out
  have HBS := Lib.hid hbuf
  clear hbuf
  go_loopw [3, 4] (fun v i wr => ∃ k : Nat, k ≤ t.length ∧ i = .int .i64 k ∧ Buf (w.heap.size + 1) (w.alloc (.cells #[.int .i64 3, .int .i64 n, .string (S t), .slice a l.length cap] 52)) wr v (34 :: escT (t.take k))) (fun _ i _ => t.length - (intOf i).toNat)
  case atStart => exact ⟨0, by omega, rfl, HBS.out⟩
  case round =>
    obtain ⟨k, hk, rfl, hbr⟩ := hrel
    have HBR := Lib.hid hbr
    have hx0 := (hbr.below.block w.heap.size (by omega)).trans HBOX.out
    have p2 : wr.cell? ⟨w.heap.size, 2, none⟩ = some (.string (S t)) := (cell_of_row wr _ 2 _ _ (0, 0) hx0).trans rfl
    have hbl := escT_len (t.take k)
    rw [List.length_take] at hbl
    have hbk : (escT (t.take k)).length ≤ 400000 := by omega
    clear hbr hx0 hbl
    by_cases hlt : k < t.length
    · have hki : (k : Int) < (t.length : Int) := by omega
      have hg := getElem_list (S t) k (by omega)
      rw [S_toList] at hg
      have hsn := escT_snoc t k hlt
      have HSN := Lib.hid hsn
      have hcb := byte_lt (t.getD k 0)
      generalize t.getD k 0 = c at *
      have hc : (S t)[k]'(by omega) = c := hg.symm
      have HMK := Lib.hid (fun (wr' : World) (v' : Value) (l' : List UInt8) (h : Buf (w.heap.size + 1) (w.alloc (.cells #[.int .i64 3, .int .i64 n, .string (S t), .slice a l.length cap] 52)) wr' v' l') (e : l' = (34 :: escT (t.take k)) ++ esc c) => show Buf (w.heap.size + 1) (w.alloc (.cells #[.int .i64 3, .int .i64 n, .string (S t), .slice a l.length cap] 52)) wr' v' (34 :: escT (t.take (k + 1))) from by rw [HSN.out, ← List.cons_append, ← e]; exact h)
      clear hg hsn
      by_cases hA : c.toNat < 32 ∨ 126 < c.toNat
      · have hq1 : c.toNat / 16 < 16 := by have := c.toNat_lt; omega
        have hq2 : c.toNat % 16 < 16 := by omega
        have hi1 := fun w => run_hex (c.toNat / 16) hq1 w
        have hi2 := fun w => run_hex (c.toNat % 16) hq2 w
        have hdiv : (c.toNat : Int) / 16 = ((c.toNat / 16 : Nat) : Int) := by omega
        have hmod : (c.toNat : Int) % 16 = ((c.toNat % 16 : Nat) : Int) := by omega
        have hesc : esc c = [92, 120, hexC (c.toNat / 16), hexC (c.toNat % 16)] := by
          unfold esc
          rw [if_pos]
          simp only [Bool.or_eq_true, decide_eq_true_eq]
          rcases hA with h | h
          · exact .inl (UInt8.lt_iff_toNat_lt.2 h)
          · exact .inr (UInt8.lt_iff_toNat_lt.2 h)
        have HESC := Lib.hid hesc
        clear hesc
        have hx1 : ((hexC (c.toNat / 16)).toNat : Int) < 256 := byte_lt _
        have hx2 : ((hexC (c.toNat % 16)).toNat : Int) < 256 := byte_lt _
        generalize hexC (c.toNat / 16) = y1 at *
        generalize hexC (c.toNat % 16) = y2 at *
        generalize c.toNat / 16 = q1 at *
        generalize c.toNat % 16 = q2 at *
        rcases (by omega : c.toNat < 32 ∨ (¬ c.toNat < 32 ∧ 126 < c.toNat)) with hA1 | ⟨hA1, hA2⟩
        all_goals
          have hA1i : (c.toNat : Int) < 32 ∨ ((32 : Int) ≤ (c.toNat : Int) ∧ (126 : Int) < (c.toNat : Int)) := by omega
          clear hA
          go_wp2_with (first
            | (at_builtin; refine wpList_append_own _ rfl _ _ 71 rfl (w.heap.size + 1) 5 i0 _ 1 1 Tryz.underlying71 hi hz0 hz1 hz2 rfl (by omega) _ _ _ rfl (HB4.out.own.alloc _) ⟨_, 0, none⟩ 1 1 [.int .u8 (y2.toNat : Int)] rfl rfl (news_one _ _ _ _ (by first | rfl | simp)) (one_int _) (by simp only [List.length_append, List.length_cons, List.length_nil]; unfold maxLen; omega) (by simp only [List.length_append, List.length_cons, List.length_nil]; omega) (Nat.le_trans HB4.out.hi (by simp)) ?_; intro v5 w5 hown hgrow _; have HB5 := Lib.hid (HB4.out.step (c := y2) (by rfl) hown hgrow); clear hown hgrow)
            | (at_builtin; refine wpList_append_own _ rfl _ _ 71 rfl (w.heap.size + 1) 5 i0 _ 1 1 Tryz.underlying71 hi hz0 hz1 hz2 rfl (by omega) _ _ _ rfl (HB3.out.own.alloc _) ⟨_, 0, none⟩ 1 1 [.int .u8 (y1.toNat : Int)] rfl rfl (news_one _ _ _ _ (by first | rfl | simp)) (one_int _) (by simp only [List.length_append, List.length_cons, List.length_nil]; unfold maxLen; omega) (by simp only [List.length_append, List.length_cons, List.length_nil]; omega) (Nat.le_trans HB3.out.hi (by simp)) ?_; intro v4 w4 hown hgrow _; have HB4 := Lib.hid (HB3.out.step (c := y1) (by rfl) hown hgrow); clear hown hgrow)
            | (at_builtin; refine wpList_append_own _ rfl _ _ 71 rfl (w.heap.size + 1) 5 i0 _ 1 1 Tryz.underlying71 hi hz0 hz1 hz2 rfl (by omega) _ _ _ rfl (HB2.out.own.alloc _) ⟨_, 0, none⟩ 1 1 [.int .u8 120] rfl rfl (news_one _ _ _ _ (by first | rfl | simp)) (one_int _) (by simp only [List.length_append, List.length_cons, List.length_nil]; unfold maxLen; omega) (by simp only [List.length_append, List.length_cons, List.length_nil]; omega) (Nat.le_trans HB2.out.hi (by simp)) ?_; intro v3 w3 hown hgrow _; have HB3 := Lib.hid (HB2.out.step (c := 120) (by rfl) hown hgrow); clear hown hgrow)
            | (at_builtin; refine wpList_append_own _ rfl _ _ 71 rfl (w.heap.size + 1) 5 i0 _ 1 1 Tryz.underlying71 hi hz0 hz1 hz2 rfl (by omega) _ _ _ rfl (HBR.out.own.alloc _) ⟨_, 0, none⟩ 1 1 [.int .u8 92] rfl rfl (news_one _ _ _ _ (by first | rfl | simp)) (one_int _) (by simp only [List.length_append, List.length_cons, List.length_nil]; unfold maxLen; omega) (by simp only [List.length_append, List.length_cons, List.length_nil]; omega) (Nat.le_trans HBR.out.hi (by simp)) ?_; intro v2 w2 hown hgrow _; have HB2 := Lib.hid (HBR.out.step (c := 92) (by rfl) hown hgrow); clear hown hgrow))
          have HFIN := Lib.hid (HMK.out _ _ _ HB5.out (by simp [HESC.out]))
          go_roundw
          case rel => exact ⟨k + 1, by omega, by go_num, HFIN.out⟩
          case measure => simp [intOf]; omega
      · by_cases hE : c.toNat = 34 ∨ c.toNat = 92
        · have hesc : esc c = [92, c] := by
            unfold esc
            have h1 : (decide (c < 32) || decide (126 < c)) = false := by
              simp only [Bool.or_eq_false_iff, decide_eq_false_iff_not, UInt8.lt_iff_toNat_lt]
              exact ⟨fun h => hA (.inl h), fun h => hA (.inr h)⟩
            rw [h1, if_neg (by simp), if_pos]
            simp only [Bool.or_eq_true, beq_iff_eq]
            rcases hE with h | h
            · exact .inl (UInt8.toNat_inj.1 h)
            · exact .inr (UInt8.toNat_inj.1 h)
          have HESC := Lib.hid hesc
          have hA1 : (32 : Int) ≤ (c.toNat : Int) := by omega
          have hA2 : (c.toNat : Int) ≤ 126 := by omega
          clear hesc hA
          rcases hE with hE | hE
          · obtain rfl : c = 34 := UInt8.toNat_inj.1 hE
            clear hE
            go_wp2_with (first
              | (at_builtin; refine wpList_append_own _ rfl _ _ 71 rfl (w.heap.size + 1) 5 i0 _ 1 1 Tryz.underlying71 hi hz0 hz1 hz2 rfl (by omega) _ _ _ rfl (HB2.out.own.alloc _) ⟨_, 0, none⟩ 1 1 [.int .u8 34] rfl rfl (news_one _ _ _ _ (by first | rfl | simp)) (one_int _) (by simp only [List.length_append, List.length_cons, List.length_nil]; unfold maxLen; omega) (by simp only [List.length_append, List.length_cons, List.length_nil]; omega) (Nat.le_trans HB2.out.hi (by simp)) ?_; intro v3 w3 hown hgrow _; have HB3 := Lib.hid (HB2.out.step (c := 34) (by rfl) hown hgrow); clear hown hgrow)
              | (at_builtin; refine wpList_append_own _ rfl _ _ 71 rfl (w.heap.size + 1) 5 i0 _ 1 1 Tryz.underlying71 hi hz0 hz1 hz2 rfl (by omega) _ _ _ rfl (HBR.out.own.alloc _) ⟨_, 0, none⟩ 1 1 [.int .u8 92] rfl rfl (news_one _ _ _ _ (by first | rfl | simp)) (one_int _) (by simp only [List.length_append, List.length_cons, List.length_nil]; unfold maxLen; omega) (by simp only [List.length_append, List.length_cons, List.length_nil]; omega) (Nat.le_trans HBR.out.hi (by simp)) ?_; intro v2 w2 hown hgrow _; have HB2 := Lib.hid (HBR.out.step (c := 92) (by rfl) hown hgrow); clear hown hgrow))
            have HFIN := Lib.hid (HMK.out _ _ _ HB3.out (by simp [HESC.out]))
            go_roundw
            case rel => exact ⟨k + 1, by omega, by go_num, HFIN.out⟩
            case measure => simp [intOf]; omega
          · obtain rfl : c = 92 := UInt8.toNat_inj.1 hE
            clear hE
            go_wp2_with (first
              | (at_builtin; refine wpList_append_own _ rfl _ _ 71 rfl (w.heap.size + 1) 5 i0 _ 1 1 Tryz.underlying71 hi hz0 hz1 hz2 rfl (by omega) _ _ _ rfl (HB2.out.own.alloc _) ⟨_, 0, none⟩ 1 1 [.int .u8 92] rfl rfl (news_one _ _ _ _ (by first | rfl | simp)) (one_int _) (by simp only [List.length_append, List.length_cons, List.length_nil]; unfold maxLen; omega) (by simp only [List.length_append, List.length_cons, List.length_nil]; omega) (Nat.le_trans HB2.out.hi (by simp)) ?_; intro v3 w3 hown hgrow _; have HB3 := Lib.hid (HB2.out.step (c := 92) (by rfl) hown hgrow); clear hown hgrow)
              | (at_builtin; refine wpList_append_own _ rfl _ _ 71 rfl (w.heap.size + 1) 5 i0 _ 1 1 Tryz.underlying71 hi hz0 hz1 hz2 rfl (by omega) _ _ _ rfl (HBR.out.own.alloc _) ⟨_, 0, none⟩ 1 1 [.int .u8 92] rfl rfl (news_one _ _ _ _ (by first | rfl | simp)) (one_int _) (by simp only [List.length_append, List.length_cons, List.length_nil]; unfold maxLen; omega) (by simp only [List.length_append, List.length_cons, List.length_nil]; omega) (Nat.le_trans HBR.out.hi (by simp)) ?_; intro v2 w2 hown hgrow _; have HB2 := Lib.hid (HBR.out.step (c := 92) (by rfl) hown hgrow); clear hown hgrow))
            have HFIN := Lib.hid (HMK.out _ _ _ HB3.out (by simp [HESC.out]))
            go_roundw
            case rel => exact ⟨k + 1, by omega, by go_num, HFIN.out⟩
            case measure => simp [intOf]; omega
        · have hesc : esc c = [c] := by
            unfold esc
            have h1 : (decide (c < 32) || decide (126 < c)) = false := by
              simp only [Bool.or_eq_false_iff, decide_eq_false_iff_not, UInt8.lt_iff_toNat_lt]
              exact ⟨fun h => hA (.inl h), fun h => hA (.inr h)⟩
            have h2 : (c == 34 || c == 92) = false := by
              simp only [Bool.or_eq_false_iff, beq_eq_false_iff_ne, ne_eq]
              exact ⟨fun h => hE (.inl (by rw [h]; rfl)), fun h => hE (.inr (by rw [h]; rfl))⟩
            rw [h1, if_neg (by simp), h2, if_neg (by simp)]
          have HESC := Lib.hid hesc
          have hA1 : (32 : Int) ≤ (c.toNat : Int) := by omega
          have hA2 : (c.toNat : Int) ≤ 126 := by omega
          have hE1 : ((c.toNat : Int) == 34) = false := by simp; omega
          have hE2 : ((c.toNat : Int) == 92) = false := by simp; omega
          have hE3 : (c.toNat == 34) = false := by simp; omega
          have hE4 : (c.toNat == 92) = false := by simp; omega
          clear hesc hA hE
          go_wp2_with (at_builtin; refine wpList_append_own _ rfl _ _ 71 rfl (w.heap.size + 1) 5 i0 _ 1 1 Tryz.underlying71 hi hz0 hz1 hz2 rfl (by omega) _ _ _ rfl (HBR.out.own.alloc _) ⟨_, 0, none⟩ 1 1 [.int .u8 (c.toNat : Int)] rfl rfl (news_one _ _ _ _ (by first | rfl | simp)) (one_int _) (by simp only [List.length_append, List.length_cons, List.length_nil]; unfold maxLen; omega) (by simp only [List.length_append, List.length_cons, List.length_nil]; omega) (Nat.le_trans HBR.out.hi (by simp)) ?_; intro v2 w2 hown hgrow _; have HB2 := Lib.hid (HBR.out.step (c := c) (by rfl) hown hgrow); clear hown hgrow)
          have HFIN := Lib.hid (HMK.out _ _ _ HB2.out (by simp [HESC.out]))
          go_roundw
          case rel => exact ⟨k + 1, by omega, by go_num, HFIN.out⟩
          case measure => simp [intOf]; omega
    · obtain rfl : k = t.length := by omega
      have hbr2 := HBR.out
      rw [List.take_length] at hbr2 hbk
      have HBE := Lib.hid hbr2
      clear hbr2 HBR
      go_wp2_with (at_builtin; refine wpList_append_lies _ rfl _ _ 71 rfl (w.heap.size + 1) 5 i0 _ 1 1 Tryz.underlying71 hi hz0 hz1 hz2 rfl (by omega) _ _ _ rfl (HBE.out.own.alloc _) ⟨_, 0, none⟩ 1 1 [.int .u8 34] rfl rfl (news_one _ _ _ _ (by first | rfl | simp)) (one_int _) (by omega) (by simp only [List.length_cons]; unfold maxLen; omega) (by simp only [List.length_cons]; omega) (Nat.le_trans HBE.out.hi (by simp)) (wr.heap.size + 1) (by simp) ?_; intro g cp w2 hown hgrow _ _; have HB9 := Lib.hid (HBE.out.step (c := 34) (by rfl) hown hgrow); have h9 := HB9.out.own; rw [show ((34 :: escT t ++ [34] : List UInt8)).length = (34 :: escT t : List UInt8).length + 1 by simp] at h9; have hcv := (Row8.of_owns h9).back (P := Tryz.prog) 71 9 5 cp Tryz.underlying71 Tryz.underlying5 Tryz.underlying9 ((34 :: escT t : List UInt8).length + 1) (by simp); simp only [List.length_cons] at hcv; clear hown hgrow h9)
      go_ret
      exact ⟨ret_s (by rfl), HW0.out.trans (HB9.out.below.mono (by simp))⟩
end Go.Proofs.YtabbdkdpmpjchaaGreatDoor.Va

namespace Go.Proofs.YtabbdkdpmpjchaaGreatDoor.Va
open Go.RowKit
theorem decZ_len (n : Int) (h1 : -9223372036854775808 ≤ n) (h2 : n ≤ 9223372036854775807) : (decZ n).length ≤ 20 := by
  unfold decZ
  split
  · rw [List.length_cons]; have := digs_len19 n.natAbs (by omega); omega
  · have := digs_len19 n.toNat (by omega); omega
theorem numsT_snoc : ∀ (l : List Int) (n : Int), numsT (l ++ [n]) = if l = [] then decZ n else numsT l ++ 44 :: 32 :: decZ n
  | [], n => rfl
  | [m], n => rfl
  | m :: m2 :: r, n => by
    have ih := numsT_snoc (m2 :: r) n
    rw [if_neg (by simp)] at ih ⊢
    show decZ m ++ 44 :: 32 :: numsT ((m2 :: r) ++ [n]) = _
    rw [ih]
    show _ = (decZ m ++ 44 :: 32 :: numsT (m2 :: r)) ++ 44 :: 32 :: decZ n
    simp
theorem numsT_len (l : List Int) (h : ∀ n ∈ l, -9223372036854775808 ≤ n ∧ n ≤ 9223372036854775807) : (numsT l).length ≤ 22 * l.length := by
  induction l with
  | nil => simp [numsT]
  | cons n r ih =>
    have h1 := decZ_len n (h n (by simp)).1 (h n (by simp)).2
    have h2 := ih (fun m hm => h m (by simp [hm]))
    cases r with
    | nil => show (decZ n).length ≤ _; simp; omega
    | cons m r =>
      show (decZ n ++ 44 :: 32 :: numsT (m :: r)).length ≤ _
      simp only [List.length_append, List.length_cons] at h2 ⊢
      omega
structure VIn (v : V) : Prop where
  num : -9223372036854775808 ≤ v.num ∧ v.num ≤ 9223372036854775807
  text : v.text.length ≤ 100000
  list : v.list.length ≤ 1000
  nums : ∀ n ∈ v.list, -9223372036854775808 ≤ n ∧ n ≤ 9223372036854775807
set_option linter.unusedSimpArgs false
set_option maxRecDepth 100000 in
set_option maxHeartbeats 3200000 in
theorem refPrint_list (n : Int) (t : List UInt8) (l : List Int) (hl : l.length ≤ 1000) (hn : ∀ n ∈ l, -9223372036854775808 ≤ n ∧ n ≤ 9223372036854775807) (a : Option Addr) (cap : Nat) (w : World) (hx : NumsAt w a l) :
    Calls Tryz.prog 71 #[valC ⟨5, n, t, l⟩ a cap] w fun e w' => e = .returned (.string (S (91 :: (numsT l ++ [93])))) ∧ Below w.heap.size w w' := by
  have HX := Lib.hid hx
  have HN := Lib.hid hn
  have HB0 := Lib.hid ((Below.refl w.heap.size w).alloc (Nat.le_refl _) (.cells #[.int .i64 5, .int .i64 n, .string (S t), .slice a l.length cap] 52))
  unfold valC
  simp only
  clear hx hn
  go_enter Tryz.func71, Tryz.ntmps71
  go_wp2_with fail
  go_loopw [6, 93] (fun s i wr => ∃ k : Nat, k ≤ l.length ∧ i = .int .i64 k ∧ s = .string (S (91 :: numsT (l.take k))) ∧ Below w.heap.size w wr) (fun _ i _ => l.length - (intOf i).toNat)
  case atStart => exact ⟨0, by omega, rfl, rfl, HB0.out⟩
  case round =>
    obtain ⟨k, hk, rfl, rfl, hb⟩ := hrel
    have HB := Lib.hid hb
    have hln := numsT_len (l.take k) (fun m hm => HN.out m (List.mem_of_mem_take hm))
    rw [List.length_take] at hln
    have hsz : (S (91 :: numsT (l.take k))).size ≤ 22001 := by rw [S_size, List.length_cons]; omega
    clear hb hln
    by_cases hlt : k < l.length
    · obtain ⟨g, off, rfl, hc, hgl⟩ := HX.out k hlt
      have r1 := (HB.out.cell (p := ⟨g, off + k, none⟩) hgl).trans hc
      have hm := HN.out (l.getD k 0) (by simp [List.getD, hlt])
      have hts : l.take (k + 1) = l.take k ++ [l.getD k 0] := by
        rw [List.take_succ_eq_append_getElem hlt]; simp [List.getD, hlt]
      have hsn := numsT_snoc (l.take k) (l.getD k 0)
      rw [← hts] at hsn
      have hdl := decZ_len _ hm.1 hm.2
      have hdec := fun w => dec_any (l.getD k 0) w hm.1 hm.2
      have HDEC := Lib.hid hdec
      have hki : (k : Int) < (l.length : Int) := by omega
      have hds : (S (decZ (l.getD k 0))).size ≤ 20 := by rw [S_size]; exact hdl
      have hS1 : S (decZ (l.getD k 0)) = S (decZ (l.getD k 0)) := rfl
      by_cases hk0 : k = 0
      · subst hk0
        rw [List.take_zero, if_pos rfl] at hsn
        have hres : S (91 :: numsT (l.take 0)) ++ S (decZ (l.getD 0 0)) = S (91 :: numsT (l.take (0 + 1))) := by
          rw [S_append, hsn]; rfl
        have hadd : ∀ w, (Op.stringOp .add (S (91 :: numsT (l.take 0))) (S (decZ (l.getD 0 0)))).run Tryz.prog w = .ok (.string (S (91 :: numsT (l.take (0 + 1))))) w := fun w => by
          rw [run_string_add_sum w _ _ (by omega), hres]
        have HADD := Lib.hid hadd
        clear hres hts hsn hdl hdec hm hS1 hc hadd
        generalize S (decZ (l.getD 0 0)) = d at *
        generalize S (91 :: numsT (l.take 0)) = s0 at *
        generalize hs1 : S (91 :: numsT (l.take (0 + 1))) = s1 at *
        have HS1 := Lib.hid hs1
        rw [Nat.add_zero] at r1
        clear hs1
        generalize l.getD 0 0 = u at *
        have hadd := HADD.out
        go_wp2_with fail
        refine (HDEC.out _).mono ?_
        rintro e w1 ⟨rfl, b1⟩
        have HB1 := Lib.hid (HB.out.trans (b1.mono HB.out.size))
        clear b1
        go_wp2_with fail
        go_roundw
        case rel => exact ⟨0 + 1, by omega, by go_num, by rw [HS1.out], HB1.out⟩
        case measure => simp [intOf]; omega
      · rw [if_neg (fun e => by have h7 : (l.take k).length = k := by { rw [List.length_take]; omega }
                                rw [e] at h7; exact hk0 h7.symm)] at hsn
        have hres1 : S (91 :: numsT (l.take k)) ++ (⟨#[44, 32]⟩ : ByteArray) = S (91 :: numsT (l.take k) ++ [44, 32]) := by
          show _ ++ S [44, 32] = _
          rw [S_append]
        have hsz2 : (S (91 :: numsT (l.take k) ++ [44, 32])).size ≤ 22003 := by
          rw [S_size] at hsz ⊢; rw [List.length_append]; simp only [List.length_cons, List.length_nil] at hsz ⊢; omega
        have hres2 : S (91 :: numsT (l.take k) ++ [44, 32]) ++ S (decZ (l.getD k 0)) = S (91 :: numsT (l.take (k + 1))) := by
          rw [S_append, hsn]; simp
        have hadd1 : ∀ w, (Op.stringOp .add (S (91 :: numsT (l.take k))) ⟨#[44, 32]⟩).run Tryz.prog w = .ok (.string (S (91 :: numsT (l.take k) ++ [44, 32]))) w := fun w => by
          rw [run_string_add_sum w _ _ (by have : (⟨#[44, 32]⟩ : ByteArray).size = 2 := rfl; omega), hres1]
        have hadd2 : ∀ w, (Op.stringOp .add (S (91 :: numsT (l.take k) ++ [44, 32])) (S (decZ (l.getD k 0)))).run Tryz.prog w = .ok (.string (S (91 :: numsT (l.take (k + 1))))) w := fun w => by
          rw [run_string_add_sum w _ _ (by omega), hres2]
        have hk1 : 0 < k := by omega
        clear hres1 hres2 hts hsn hdl hdec hm hS1 hc hk0
        generalize S (91 :: numsT (l.take k) ++ [44, 32]) = sm at *
        generalize S (decZ (l.getD k 0)) = d at *
        generalize S (91 :: numsT (l.take k)) = s0 at *
        generalize hs1 : S (91 :: numsT (l.take (k + 1))) = s1 at *
        have HS1 := Lib.hid hs1
        clear hs1
        generalize l.getD k 0 = u at *
        go_wp2_with fail
        refine (HDEC.out _).mono ?_
        rintro e w1 ⟨rfl, b1⟩
        have HB1 := Lib.hid (HB.out.trans (b1.mono HB.out.size))
        clear b1
        go_wp2_with fail
        go_roundw
        case rel => exact ⟨k + 1, by omega, by go_num, by rw [HS1.out], HB1.out⟩
        case measure => simp [intOf]; omega
    · obtain rfl : k = l.length := by omega
      rw [List.take_length] at hsz ⊢
      have hres : S (91 :: numsT l) ++ (⟨#[93]⟩ : ByteArray) = S (91 :: (numsT l ++ [93])) := by
        show _ ++ S [93] = _
        rw [S_append]; rfl
      have hadd : ∀ w, (Op.stringOp .add (S (91 :: numsT l)) ⟨#[93]⟩).run Tryz.prog w = .ok (.string (S (91 :: (numsT l ++ [93])))) w := fun w => by
        rw [run_string_add_sum w _ _ (by have : (⟨#[93]⟩ : ByteArray).size = 1 := rfl; omega), hres]
      clear hres
      go_wp2_with fail
      go_ret
      exact ⟨ret_s rfl, HB.out⟩
set_option maxRecDepth 100000 in
set_option maxHeartbeats 1600000 in
theorem refPrint_any (v : V) (ok : VIn v) (hr : rightB v = true) (a : Option Addr) (cap : Nat) (w : World) (hx : NumsAt w a v.list) :
    Calls Tryz.prog 71 #[valC v a cap] w fun e w' => e = .returned (.string (S (printV v))) ∧ Below w.heap.size w w' := by
  have hc := right_cases hr
  obtain ⟨k, n, t, l⟩ := v
  have h1 := ok.num
  have h2 := ok.text
  have h3 := ok.list
  have h4 := ok.nums
  simp only at h1 h2 h3 h4 hc hx
  clear ok hr
  rcases hc with ⟨rfl, rfl, rfl, rfl⟩ | ⟨rfl, rfl, rfl⟩ | ⟨rfl, hn, rfl, rfl⟩ | ⟨rfl, rfl, rfl⟩ | ⟨rfl, rfl, hnm, rfl⟩ | ⟨rfl, rfl, rfl⟩
  · clear h1 h2 h3 h4 hx
    unfold valC
    simp only
    go_enter Tryz.func71, Tryz.ntmps71
    go_wp2_with fail
    go_ret
    exact ⟨ret_s rfl, (Below.refl _ _).alloc (Nat.le_refl _) _⟩
  · have hd := fun w => dec_any n w h1.1 h1.2
    have HD := Lib.hid hd
    clear h1 h2 h3 h4 hx hd
    unfold valC
    simp only
    go_enter Tryz.func71, Tryz.ntmps71
    go_wp2_with fail
    refine (HD.out _).mono ?_
    rintro e w1 ⟨rfl, b1⟩
    have HB1 := Lib.hid (((Below.refl w.heap.size w).alloc (Nat.le_refl _) (.cells #[.int .i64 1, .int .i64 n, .string (S []), .slice a 0 cap] 52)).trans (b1.mono (by simp)))
    clear b1
    go_wp2_with fail
    go_ret
    exact ⟨ret_s rfl, HB1.out⟩
  · clear h1 h2 h3 h4 hx
    rcases hn with rfl | rfl
    all_goals
      unfold valC
      simp only
      go_enter Tryz.func71, Tryz.ntmps71
      go_wp2_with fail
      go_ret
      exact ⟨ret_s rfl, (Below.refl _ _).alloc (Nat.le_refl _) _⟩
  · exact refPrint_text 0 t [] h2 a cap w
  · have hres : (⟨#[39]⟩ : ByteArray) ++ S t = S (39 :: t) := by
      show S [39] ++ _ = _
      rw [S_append]; rfl
    have hts : (S t).size = t.length := S_size t
    have hadd : ∀ w, (Op.stringOp .add ⟨#[39]⟩ (S t)).run Tryz.prog w = .ok (.string (S (39 :: t))) w := fun w => by
      rw [run_string_add_sum w _ _ (by have : (⟨#[39]⟩ : ByteArray).size = 1 := rfl; omega), hres]
    clear h1 h2 h3 h4 hx hnm hres hts
    unfold valC
    simp only
    go_enter Tryz.func71, Tryz.ntmps71
    go_wp2_with fail
    go_ret
    exact ⟨ret_s rfl, (Below.refl _ _).alloc (Nat.le_refl _) _⟩
  · exact refPrint_list 0 [] l h3 h4 a cap w hx
end Go.Proofs.YtabbdkdpmpjchaaGreatDoor.Va

namespace Go.Proofs.YtabbdkdpmpjchaaGreatDoor.Va
open Go.RowKit
def ValAt (w : World) (b o : Nat) (v : V) : Prop := ∃ a cap, w.cell? ⟨b, o, none⟩ = some (.int .i64 v.kind) ∧ w.cell? ⟨b, o + 1, none⟩ = some (.int .i64 v.num) ∧ w.cell? ⟨b, o + 2, none⟩ = some (.string (S v.text)) ∧
  w.cell? ⟨b, o + 3, none⟩ = some (.slice a v.list.length cap) ∧ NumsAt w a v.list
def ValsAt (w : World) (a : Option Addr) (vs : List V) : Prop := ∀ i, (h : i < vs.length) → ∃ b off, a = some ⟨b, off, none⟩ ∧ ValAt w b (off + i * 4) vs[i] ∧ b < w.heap.size
theorem ValAt.below {w w' : World} {b o : Nat} {v : V} (h : ValAt w b o v) (hl : b < w.heap.size) (k : Below w.heap.size w w') : ValAt w' b o v := by
  obtain ⟨a, cap, h0, h1, h2, h3, h4⟩ := h
  exact ⟨a, cap, (k.cell (p := ⟨b, o, none⟩) hl).trans h0, (k.cell (p := ⟨b, o + 1, none⟩) hl).trans h1, (k.cell (p := ⟨b, o + 2, none⟩) hl).trans h2, (k.cell (p := ⟨b, o + 3, none⟩) hl).trans h3, h4.below k⟩
theorem ValsAt.below {w w' : World} {a : Option Addr} {vs : List V} (h : ValsAt w a vs) (k : Below w.heap.size w w') : ValsAt w' a vs := fun i hi => by
  obtain ⟨b, off, e, hv, hl⟩ := h i hi
  exact ⟨b, off, e, hv.below hl k, Nat.lt_of_lt_of_le hl k.size⟩
set_option linter.unusedSimpArgs false
end Go.Proofs.YtabbdkdpmpjchaaGreatDoor.Va

namespace Go.Proofs.YtabbdkdpmpjchaaGreatDoor.Va
open Go.RowKit
set_option linter.unusedSimpArgs false
end Go.Proofs.YtabbdkdpmpjchaaGreatDoor.Va
