/-
  EvCmp, VaRef.
-/
import Derived.Test.YtlmmfhbdebfgkaaGreatDoorVEvNumQ
import Derived.Test.YtlmmfhbdebfgkaaGreatDoorVVaPureQ
import Derived.Deep.RegionHeld3
import Derived.RegionDies
import Derived.Deep.QuietTactic
import Derived.BigQuiet
import Derived.Lib.SmallJoins
set_option linter.unusedVariables false
set_option linter.unusedSimpArgs false
set_option maxRecDepth 100000
set_option maxHeartbeats 4000000
namespace Go.Proofs.YtlmmfhbdebfgkaaGreatDoor.Ev
open Go.RowKit
open Ex Lx Va
theorem comp_11 (a : Int) (ha : I64 a) (g o c : Nat) (w : World) (h0 : w.cell? ⟨g, o, none⟩ = some (.int .i64 a)) :
    Calls Tryz.prog 149 #[.int .i64 11, .slice (some ⟨g, o, none⟩) 1 c] w fun e w' => e = numP (0 - a) ∧ Below w.heap.size w w' := by
  have HC := Lib.hid (diff_any 0 a ⟨by decide, by decide⟩ ha)
  have HB := Lib.hid (Below.refl w.heap.size w)
  clear ha
  rcases numP_cases (0 - a) with ⟨_, hn⟩ | hn
  · rw [hn] at HC ⊢
    generalize (0 : Int) - a = d at HC ⊢
    clear hn
    go_enter Tryz.func149, Tryz.ntmps149
    go_wp2_with fail
    refine (HC.out _).mono ?_
    rintro e w1 ⟨rfl, rfl⟩
    go_wp2_with fail
    go_ret
    exact ⟨rfl, HB.out⟩
  · rw [hn] at HC ⊢
    clear hn
    go_enter Tryz.func149, Tryz.ntmps149
    go_wp2_with fail
    refine (HC.out _).mono ?_
    rintro e w1 ⟨rfl, rfl⟩
    unfold panE
    go_wp2_with fail
    exact ⟨rfl, rfl, HB.out⟩
theorem comp_23 (a b : Int) (ha : I64 a) (hb : I64 b) (g o c : Nat) (w : World) (h0 : w.cell? ⟨g, o, none⟩ = some (.int .i64 a)) (h1 : w.cell? ⟨g, o + 1, none⟩ = some (.int .i64 b)) :
    Calls Tryz.prog 149 #[.int .i64 23, .slice (some ⟨g, o, none⟩) 2 c] w fun e w' => e = numP (a + b) ∧ Below w.heap.size w w' := by
  have HC := Lib.hid (sum_any a b ha hb)
  have HF := Lib.hid (show w.cell? ⟨g, o, none⟩ = some (.int .i64 a) ∧ w.cell? ⟨g, o + 1, none⟩ = some (.int .i64 b) from ⟨h0, h1⟩)
  have HB := Lib.hid (Below.refl w.heap.size w).drew
  clear ha hb
  rcases numP_cases (a + b) with ⟨_, hn⟩ | hn
  · rw [hn] at HC ⊢
    generalize a + b = d at HC ⊢
    clear hn
    go_enter Tryz.func149, Tryz.ntmps149
    go_wp2_with fail
    go_region_held3 (fun w' => w'.cell? ⟨g, o, none⟩ = some (.int .i64 a) ∧ w'.cell? ⟨g, o + 1, none⟩ = some (.int .i64 b))
      (first | assumption | exact HF.out | exact ⟨by assumption, by assumption⟩ | go_keep)
      (first
        | (go_at_call 185; (with_reducible refine (HC.out _).mono ?_); rintro e w1 ⟨rfl, rfl⟩))
    go_wp2_with fail
    go_ret
    exact ⟨rfl, HB.out⟩
  · rw [hn] at HC ⊢
    clear hn
    go_enter Tryz.func149, Tryz.ntmps149
    go_wp2_with fail
    go_region_dies
    all_goals (try go_wp2_with fail)
    all_goals (try (refine (HC.out _).mono ?_))
    all_goals (try (rintro e w1 ⟨rfl, rfl⟩; unfold panE))
    all_goals (first | exact ⟨rfl, rfl, HB.out⟩ | (go_wp2_with fail; exact ⟨rfl, rfl, HB.out⟩))
theorem comp_24 (a b : Int) (ha : I64 a) (hb : I64 b) (g o c : Nat) (w : World) (h0 : w.cell? ⟨g, o, none⟩ = some (.int .i64 a)) (h1 : w.cell? ⟨g, o + 1, none⟩ = some (.int .i64 b)) :
    Calls Tryz.prog 149 #[.int .i64 24, .slice (some ⟨g, o, none⟩) 2 c] w fun e w' => e = numP (a - b) ∧ Below w.heap.size w w' := by
  have HC := Lib.hid (diff_any a b ha hb)
  have HF := Lib.hid (show w.cell? ⟨g, o, none⟩ = some (.int .i64 a) ∧ w.cell? ⟨g, o + 1, none⟩ = some (.int .i64 b) from ⟨h0, h1⟩)
  have HB := Lib.hid (Below.refl w.heap.size w).drew
  clear ha hb
  rcases numP_cases (a - b) with ⟨_, hn⟩ | hn
  · rw [hn] at HC ⊢
    generalize a - b = d at HC ⊢
    clear hn
    go_enter Tryz.func149, Tryz.ntmps149
    go_wp2_with fail
    go_region_held3 (fun w' => w'.cell? ⟨g, o, none⟩ = some (.int .i64 a) ∧ w'.cell? ⟨g, o + 1, none⟩ = some (.int .i64 b))
      (first | assumption | exact HF.out | exact ⟨by assumption, by assumption⟩ | go_keep)
      (first
        | (go_at_call 184; (with_reducible refine (HC.out _).mono ?_); rintro e w1 ⟨rfl, rfl⟩))
    go_wp2_with fail
    go_ret
    exact ⟨rfl, HB.out⟩
  · rw [hn] at HC ⊢
    clear hn
    go_enter Tryz.func149, Tryz.ntmps149
    go_wp2_with fail
    go_region_dies
    all_goals (try go_wp2_with fail)
    all_goals (try (refine (HC.out _).mono ?_))
    all_goals (try (rintro e w1 ⟨rfl, rfl⟩; unfold panE))
    all_goals (first | exact ⟨rfl, rfl, HB.out⟩ | (go_wp2_with fail; exact ⟨rfl, rfl, HB.out⟩))
theorem comp_20 (a b : Int) (ha : I64 a) (hb : I64 b) (g o c : Nat) (w : World) (h0 : w.cell? ⟨g, o, none⟩ = some (.int .i64 a)) (h1 : w.cell? ⟨g, o + 1, none⟩ = some (.int .i64 b)) :
    Calls Tryz.prog 149 #[.int .i64 20, .slice (some ⟨g, o, none⟩) 2 c] w fun e w' => e = numP (a * b) ∧ Below w.heap.size w w' := by
  have HC := Lib.hid (prod_any a b ha hb)
  have HF := Lib.hid (show w.cell? ⟨g, o, none⟩ = some (.int .i64 a) ∧ w.cell? ⟨g, o + 1, none⟩ = some (.int .i64 b) from ⟨h0, h1⟩)
  have HB := Lib.hid (Below.refl w.heap.size w).drew
  clear ha hb
  rcases numP_cases (a * b) with ⟨_, hn⟩ | hn
  · rw [hn] at HC ⊢
    generalize a * b = d at HC ⊢
    clear hn
    go_enter Tryz.func149, Tryz.ntmps149
    go_wp2_with fail
    go_region_held3 (fun w' => w'.cell? ⟨g, o, none⟩ = some (.int .i64 a) ∧ w'.cell? ⟨g, o + 1, none⟩ = some (.int .i64 b))
      (first | assumption | exact HF.out | exact ⟨by assumption, by assumption⟩ | go_keep)
      (first
        | (go_at_call 186; (with_reducible refine (HC.out _).mono ?_); rintro e w1 ⟨rfl, rfl⟩))
    go_wp2_with fail
    go_ret
    exact ⟨rfl, HB.out⟩
  · rw [hn] at HC ⊢
    clear hn
    go_enter Tryz.func149, Tryz.ntmps149
    go_wp2_with fail
    go_region_dies
    all_goals (try go_wp2_with fail)
    all_goals (try (refine (HC.out _).mono ?_))
    all_goals (try (rintro e w1 ⟨rfl, rfl⟩; unfold panE))
    all_goals (first | exact ⟨rfl, rfl, HB.out⟩ | (go_wp2_with fail; exact ⟨rfl, rfl, HB.out⟩))
theorem comp_21 (a b : Int) (ha : I64 a) (hb : I64 b) (g o c : Nat) (w : World) (h0 : w.cell? ⟨g, o, none⟩ = some (.int .i64 a)) (h1 : w.cell? ⟨g, o + 1, none⟩ = some (.int .i64 b)) :
    Calls Tryz.prog 149 #[.int .i64 21, .slice (some ⟨g, o, none⟩) 2 c] w fun e w' => e = (if b = 0 then panE 31 else numP (a.tdiv b)) ∧ Below w.heap.size w w' := by
  have HC := Lib.hid (quot_any a b ha hb)
  have HF := Lib.hid (show w.cell? ⟨g, o, none⟩ = some (.int .i64 a) ∧ w.cell? ⟨g, o + 1, none⟩ = some (.int .i64 b) from ⟨h0, h1⟩)
  have HB := Lib.hid (Below.refl w.heap.size w).drew
  clear ha hb
  by_cases hz : b = 0
  · rw [if_pos hz] at HC ⊢
    clear hz
    go_enter Tryz.func149, Tryz.ntmps149
    go_wp2_with fail
    go_region_dies
    all_goals (try go_wp2_with fail)
    all_goals (try (refine (HC.out _).mono ?_))
    all_goals (try (rintro e w1 ⟨rfl, rfl⟩; unfold panE))
    all_goals (first | exact ⟨rfl, rfl, HB.out⟩ | (go_wp2_with fail; exact ⟨rfl, rfl, HB.out⟩))
  rw [if_neg hz] at HC ⊢
  clear hz
  rcases numP_cases (a.tdiv b) with ⟨_, hn⟩ | hn
  · rw [hn] at HC ⊢
    generalize a.tdiv b = d at HC ⊢
    clear hn
    go_enter Tryz.func149, Tryz.ntmps149
    go_wp2_with fail
    go_region_held3 (fun w' => w'.cell? ⟨g, o, none⟩ = some (.int .i64 a) ∧ w'.cell? ⟨g, o + 1, none⟩ = some (.int .i64 b))
      (first | assumption | exact HF.out | exact ⟨by assumption, by assumption⟩ | go_keep)
      (first
        | (go_at_call 187; (with_reducible refine (HC.out _).mono ?_); rintro e w1 ⟨rfl, rfl⟩))
    go_wp2_with fail
    go_ret
    exact ⟨rfl, HB.out⟩
  · rw [hn] at HC ⊢
    clear hn
    go_enter Tryz.func149, Tryz.ntmps149
    go_wp2_with fail
    go_region_dies
    all_goals (try go_wp2_with fail)
    all_goals (try (refine (HC.out _).mono ?_))
    all_goals (try (rintro e w1 ⟨rfl, rfl⟩; unfold panE))
    all_goals (first | exact ⟨rfl, rfl, HB.out⟩ | (go_wp2_with fail; exact ⟨rfl, rfl, HB.out⟩))
theorem comp_22 (a b : Int) (ha : I64 a) (hb : I64 b) (g o c : Nat) (w : World) (h0 : w.cell? ⟨g, o, none⟩ = some (.int .i64 a)) (h1 : w.cell? ⟨g, o + 1, none⟩ = some (.int .i64 b)) :
    Calls Tryz.prog 149 #[.int .i64 22, .slice (some ⟨g, o, none⟩) 2 c] w fun e w' => e = (if b = 0 then panE 31 else .returned (.int .i64 (a.tmod b))) ∧ Below w.heap.size w w' := by
  have HF := Lib.hid (show w.cell? ⟨g, o, none⟩ = some (.int .i64 a) ∧ w.cell? ⟨g, o + 1, none⟩ = some (.int .i64 b) from ⟨h0, h1⟩)
  have HB := Lib.hid (Below.refl w.heap.size w).drew
  have HB0 := Lib.hid (Below.refl w.heap.size w)
  clear ha hb
  by_cases hz : b = 0
  · rw [if_pos hz]
    subst hz
    go_enter Tryz.func149, Tryz.ntmps149
    go_wp2_with fail
    refine (need_bad 31 _).mono ?_
    rintro e w1 ⟨rfl, rfl⟩
    unfold panE
    go_wp2_with fail
    exact ⟨rfl, rfl, HB0.out⟩
  · rw [if_neg hz]
    have e0 : (b == 0) = false := by simpa using hz
    have f0 : (b != 0) = true := by simpa using hz
    go_enter Tryz.func149, Tryz.ntmps149
    go_wp2_with fail
    refine (need_ok 31 _).mono ?_
    rintro e w1 ⟨rfl, rfl⟩
    go_wp2_with fail
    go_region_held3 (fun w' => w'.cell? ⟨g, o, none⟩ = some (.int .i64 a) ∧ w'.cell? ⟨g, o + 1, none⟩ = some (.int .i64 b))
      (first | assumption | exact HF.out | exact ⟨by assumption, by assumption⟩ | go_keep)
      (fail)
    go_wp2_with fail
    go_ret
    exact ⟨rfl, HB.out⟩
end Go.Proofs.YtlmmfhbdebfgkaaGreatDoor.Ev
namespace Go.Proofs.YtlmmfhbdebfgkaaGreatDoor.Va
open Go.RowKit
theorem less_any (a b : Int) (w : World) :
    Calls Tryz.prog 151 #[.int .i64 a, .int .i64 b] w fun e w' => e = .returned (.int .i64 (ordI a b)) ∧ w = w' := by
  by_cases h1 : a < b
  · have e : ordI a b = -1 := if_pos h1
    rw [e]
    clear e
    go_enter Tryz.func151, Tryz.ntmps151
    go_wp2_with fail
    go_ret
    exact ⟨rfl, rfl⟩
  · by_cases h2 : b < a
    · have e : ordI a b = 1 := by unfold ordI; rw [if_neg h1, if_pos h2]
      rw [e]
      clear e
      go_enter Tryz.func151, Tryz.ntmps151
      go_wp2_with fail
      go_ret
      exact ⟨rfl, rfl⟩
    · have e : ordI a b = 0 := by unfold ordI; rw [if_neg h1, if_neg h2]
      rw [e]
      clear e
      go_enter Tryz.func151, Tryz.ntmps151
      go_wp2_with fail
      go_ret
      exact ⟨rfl, rfl⟩
def anyB (l : List UInt8) (c : UInt8) : Bool := l.any (· == c)
theorem in_any (c : UInt8) (v : Int) (hv : v = (c.toNat : Int)) (s : ByteArray) (hs : s.size ≤ 9223372036854775807) (w : World) :
    Calls Tryz.prog 150 #[.int .u8 v, .string s] w fun e w' => e = .returned (.bool (anyB s.data.toList c)) ∧ w = w' := by
  have hl := list_size s
  have HV := Lib.hid hv
  clear hv
  go_enter Tryz.func150, Tryz.ntmps150
  go_wp2_with fail
  go_loop [5] (fun i => ∃ k : Nat, k ≤ s.size ∧ i = .int .i64 k ∧ anyB (s.data.toList.take k) c = false) (fun i => s.size - (intOf i).toNat)
  case atStart => exact ⟨0, by omega, rfl, by simp [anyB]⟩
  case round =>
    obtain ⟨k, hk, rfl, hno⟩ := hrel
    have HNO := Lib.hid hno
    clear hno
    by_cases hlt : k < s.size
    · have hg := getElem_list s k hlt
      have hts : s.data.toList.take (k + 1) = s.data.toList.take k ++ [s[k]] := by
        rw [List.take_succ_eq_append_getElem (by simpa using hlt)]; rfl
      have HTS := Lib.hid hts
      have hb := byte_lt s[k]
      clear hts hg
      by_cases he : s[k] = c
      · have e1 : (((s[k]).toNat : Int) == v) = true := by rw [HV.out, he]; simp
        have hres : anyB s.data.toList c = true := by
          unfold anyB
          rw [List.any_eq_true]
          exact ⟨s[k], by rw [show s[k] = s.data.toList[k]'(by omega) from rfl]; exact List.getElem_mem _, by simp [he]⟩
        have HRES := Lib.hid hres
        clear he hres
        go_wp2_with fail
        go_ret
        exact ⟨by rw [HRES.out]; rfl, rfl⟩
      · have e1 : (((s[k]).toNat : Int) == v) = false := by
          rw [HV.out]; simp
          intro h
          exact he (UInt8.toNat_inj.1 (by omega))
        have HE := Lib.hid he
        clear he
        go_wp2_with fail
        go_round
        case rel => exact ⟨k + 1, by omega, by go_num, by have := HNO.out; unfold anyB at this ⊢; rw [HTS.out, List.any_append, this]; simp [HE.out]⟩
        case measure => simp [intOf]; omega
    · obtain rfl : k = s.size := by omega
      go_wp2_with fail
      go_ret
      have := HNO.out
      rw [List.take_of_length_le (by omega)] at this
      exact ⟨by rw [this]; rfl, rfl⟩
def LET : ByteArray := ⟨#[97, 98, 99, 100, 101, 102, 103, 104, 105, 106, 107, 108, 109, 110, 111, 112, 113, 114, 115, 116, 117, 118, 119, 120, 121, 122, 65, 66, 67, 68, 69, 70, 71, 72, 73, 74, 75, 76, 77, 78, 79, 80, 81, 82, 83, 84, 85, 86, 87, 88, 89, 90]⟩
def DIG : ByteArray := ⟨#[48, 49, 50, 51, 52, 53, 54, 55, 56, 57, 95]⟩
theorem let_any (c : UInt8) : anyB LET.data.toList c = letB c := by
  have : ∀ i : Fin 256, anyB LET.data.toList (UInt8.ofNat i.val) = letB (UInt8.ofNat i.val) := by decide +kernel
  have h := this ⟨c.toNat, c.toNat_lt⟩
  simpa using h
theorem dig_any (c : UInt8) : anyB DIG.data.toList c = (digB c || c == 95) := by
  have : ∀ i : Fin 256, anyB DIG.data.toList (UInt8.ofNat i.val) = (digB (UInt8.ofNat i.val) || UInt8.ofNat i.val == 95) := by decide +kernel
  have h := this ⟨c.toNat, c.toNat_lt⟩
  simpa using h
theorem in_let (c : UInt8) (w : World) : Calls Tryz.prog 150 #[.int .u8 (c.toNat : Int), .string LET] w fun e w' => e = .returned (.bool (letB c)) ∧ w = w' := by
  have := in_any c _ rfl LET (by decide) w
  rwa [let_any] at this
theorem in_dig (c : UInt8) (w : World) : Calls Tryz.prog 150 #[.int .u8 (c.toNat : Int), .string DIG] w fun e w' => e = .returned (.bool (digB c || c == 95)) ∧ w = w' := by
  have := in_any c _ rfl DIG (by decide) w
  rwa [dig_any] at this
def okAt (i : Nat) (c : UInt8) : Bool := letB c || (decide (0 < i) && (digB c || c == 95))
def okK (l : List UInt8) : Nat → Bool
  | 0 => decide (0 < l.length) && decide (l.length ≤ 24)
  | k + 1 => okK l k && okAt k (l.getD k 0)
theorem okK_mono (l : List UInt8) (k j : Nat) (h : okK l k = false) : okK l (k + j) = false := by
  induction j with
  | zero => exact h
  | succ j ih => show (okK l (k + j) && _) = false; rw [ih]; rfl
theorem okK_all (l : List UInt8) (hl : okK l 0 = true) : ∀ k, k ≤ l.length → okK l k = true → ∀ i, i < k → okAt i (l.getD i 0) = true
  | 0, _, _, i, hi => by omega
  | k + 1, hk, h, i, hi => by
    simp only [okK, Bool.and_eq_true] at h
    by_cases e : i = k
    · subst e; exact h.2
    · exact okK_all l hl k (by omega) h.1 i (by omega)
theorem okK_of (l : List UInt8) (hl : okK l 0 = true) (h : ∀ i, i < l.length → okAt i (l.getD i 0) = true) : ∀ k, k ≤ l.length → okK l k = true
  | 0, _ => hl
  | k + 1, hk => by simp only [okK, Bool.and_eq_true]; exact ⟨okK_of l hl h k (by omega), h k (by omega)⟩
theorem nameB_okK (l : List UInt8) : okK l l.length = nameB l := by
  cases l with
  | nil => rfl
  | cons c r =>
    rw [Bool.eq_iff_iff]
    have h0 : okK (c :: r) 0 = decide (r.length ≤ 23) := by simp [okK]
    constructor
    · intro h
      have hl : okK (c :: r) 0 = true := by
        cases e : okK (c :: r) 0 with
        | true => rfl
        | false => have := okK_mono (c :: r) 0 (c :: r).length e; rw [Nat.zero_add, h] at this; cases this
      have ha := okK_all _ hl _ (Nat.le_refl _) h
      simp only [nameB, Bool.and_eq_true, decide_eq_true_eq, List.all_eq_true]
      refine ⟨⟨?_, fun x hx => ?_⟩, by simpa [h0] using hl⟩
      · have := ha 0 (by simp); simpa [okAt] using this
      · obtain ⟨i, hi, rfl⟩ := List.getElem_of_mem hx
        have := ha (i + 1) (by simpa using hi)
        simp [okAt, List.getD, hi] at this
        simp only [wordB, Bool.or_eq_true, beq_iff_eq]
        rcases this with h1 | h1 | h1
        · exact .inl (.inl h1)
        · exact .inl (.inr h1)
        · exact .inr h1
    · intro h
      simp only [nameB, Bool.and_eq_true, decide_eq_true_eq, List.all_eq_true] at h
      refine okK_of _ (by rw [h0]; simpa using h.2) (fun i hi => ?_) _ (Nat.le_refl _)
      cases i with
      | zero => simp [okAt, h.1.1]
      | succ i =>
        have hi' : i < r.length := by simpa using hi
        have := h.1.2 r[i] (List.getElem_mem _)
        simp only [wordB, Bool.or_eq_true, beq_iff_eq] at this
        simp [okAt, List.getD, hi']
        rcases this with (h1 | h1) | h1
        · exact .inl h1
        · exact .inr (.inl h1)
        · exact .inr (.inr h1)
theorem refName_any (s : ByteArray) (hs : s.size ≤ 9223372036854775807) (w : World) :
    Calls Tryz.prog 98 #[.string s] w fun e w' => e = .returned (.bool (nameB s.data.toList)) ∧ w = w' := by
  have hl := list_size s
  have HNB := Lib.hid (nameB_okK s.data.toList)
  have hfin : ∀ k, k ≤ s.size → (okK s.data.toList k = false ∨ k = s.size) → okK s.data.toList k = nameB s.data.toList := fun k hk h => by
    rw [← HNB.out, hl]
    rcases h with h | h
    · rw [h]
      have := okK_mono s.data.toList k (s.size - k) h
      rw [show k + (s.size - k) = s.size by omega] at this
      exact this.symm
    · rw [h]
  have HFIN := Lib.hid hfin
  have hok0 : okK s.data.toList 0 = (decide (0 < s.size) && decide (s.size ≤ 24)) := by simp [okK]
  have HOK0 := Lib.hid hok0
  clear hok0 hfin
  have hinl := in_let
  have hind := in_dig
  have hLET : LET = ⟨#[97, 98, 99, 100, 101, 102, 103, 104, 105, 106, 107, 108, 109, 110, 111, 112, 113, 114, 115, 116, 117, 118, 119, 120, 121, 122, 65, 66, 67, 68, 69, 70, 71, 72, 73, 74, 75, 76, 77, 78, 79, 80, 81, 82, 83, 84, 85, 86, 87, 88, 89, 90]⟩ := rfl
  have hDIG : DIG = ⟨#[48, 49, 50, 51, 52, 53, 54, 55, 56, 57, 95]⟩ := rfl
  rw [hLET] at hinl
  rw [hDIG] at hind
  have HL := Lib.hid hinl
  have HD := Lib.hid hind
  clear hinl hind hLET hDIG
  by_cases hA : 0 < s.size ∧ s.size ≤ 24
  · obtain ⟨h0, h1⟩ := hA
    have h1i : (s.size : Int) ≤ 24 := by omega
    have hk0 : okK s.data.toList 0 = true := by rw [HOK0.out]; simp [h0, h1]
    have HK0 := Lib.hid hk0
    clear hk0
    go_enter Tryz.func98, Tryz.ntmps98
    go_wp2_with fail
    go_loop [3, 4] (fun ok i => ∃ k : Nat, k ≤ s.size ∧ i = .int .i64 k ∧ ok = .bool (okK s.data.toList k)) (fun _ i => s.size - (intOf i).toNat)
    case atStart => exact ⟨0, by omega, rfl, by rw [HK0.out]⟩
    case round =>
      obtain ⟨k, hk, rfl, rfl⟩ := hrel
      cases hok : okK s.data.toList k with
      | false =>
        have hf := HFIN.out k hk (.inl hok)
        rw [hok] at hf
        have HF := Lib.hid hf
        clear hok hf
        by_cases hlt : k < s.size
        · go_wp2_with fail
          go_ret
          exact ⟨by rw [← HF.out]; rfl, rfl⟩
        · go_wp2_with fail
          go_ret
          exact ⟨by rw [← HF.out]; rfl, rfl⟩
      | true =>
        by_cases hlt : k < s.size
        · have hg := getElem_list s k hlt
          have hn : okK s.data.toList (k + 1) = okAt k s[k] := by show (okK _ k && _) = _; rw [hok, hg]; rfl
          have hb := byte_lt s[k]
          have hcl := HL.out s[k]
          have hcd := HD.out s[k]
          have HN := Lib.hid hn
          have hoa : okAt k s[k] = (letB s[k] || (decide (0 < k) && (digB s[k] || s[k] == 95))) := rfl
          have HOA := Lib.hid hoa
          clear hn hok hg hoa
          generalize (digB s[k] || s[k] == 95) = dd at *
          cases hlb : letB s[k] with
          | true =>
            rw [hlb] at hcl
            have HCL := Lib.hid hcl
            have HLB := Lib.hid hlb
            clear hcl hcd hlb
            go_wp2_with fail
            refine (HCL.out _).mono ?_
            rintro e w' ⟨rfl, rfl⟩
            go_wp2_with fail
            go_round
            case rel => exact ⟨k + 1, by omega, by go_num, by rw [HN.out, HOA.out, HLB.out]; rfl⟩
            case measure => simp [intOf]; omega
          | false =>
            rw [hlb] at hcl
            have HCL := Lib.hid hcl
            have HLB := Lib.hid hlb
            have HCD := Lib.hid hcd
            clear hcl hcd hlb
            by_cases hk0 : 0 < k
            · go_wp2_with fail
              refine (HCL.out _).mono ?_
              rintro e w' ⟨rfl, rfl⟩
              go_wp2_with fail
              refine (HCD.out _).mono ?_
              rintro e w' ⟨rfl, rfl⟩
              go_wp2_with fail
              go_round
              case rel => exact ⟨k + 1, by omega, by go_num, by rw [HN.out, HOA.out, HLB.out, decide_eq_true hk0]; simp⟩
              case measure => simp [intOf]; omega
            · obtain rfl : k = 0 := by omega
              go_wp2_with fail
              refine (HCL.out _).mono ?_
              rintro e w' ⟨rfl, rfl⟩
              go_wp2_with fail
              go_round
              case rel => exact ⟨1, by omega, by go_num, by rw [HN.out, HOA.out, HLB.out]; rfl⟩
              case measure => simp [intOf]; omega
        · obtain rfl : k = s.size := by omega
          have hf := HFIN.out s.size hk (.inr rfl)
          rw [hok] at hf
          have HF := Lib.hid hf
          clear hok hf
          go_wp2_with fail
          go_ret
          exact ⟨by rw [← HF.out]; rfl, rfl⟩
  · have hf := HFIN.out 0 (by omega) (.inl (by rw [HOK0.out]; simp; omega))
    rw [HOK0.out, show (decide (0 < s.size) && decide (s.size ≤ 24)) = false by simp; omega] at hf
    rw [← hf]
    clear hf
    by_cases h0 : 0 < s.size
    · have h24 : ¬ (s.size : Int) ≤ 24 := by omega
      go_enter Tryz.func98, Tryz.ntmps98
      go_wp2_with fail
      refine wp_loop_rounds 1 ?_
      rw [rounds_succ]
      go_wp2_with fail
      go_ret
      exact ⟨rfl, rfl⟩
    · have h00 : s.size = 0 := by omega
      go_enter Tryz.func98, Tryz.ntmps98
      go_wp2_with fail
      refine wp_loop_rounds 1 ?_
      rw [rounds_succ]
      go_wp2_with fail
      go_ret
      exact ⟨rfl, rfl⟩
end Go.Proofs.YtlmmfhbdebfgkaaGreatDoor.Va
