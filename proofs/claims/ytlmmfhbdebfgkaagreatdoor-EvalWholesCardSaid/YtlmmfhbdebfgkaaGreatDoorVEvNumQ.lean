/-
  EvNum, EvRnP, EvRnW, EvRnM.
-/
import Derived.Test.YtlmmfhbdebfgkaaGreatDoorVVaPureQ
set_option linter.unusedVariables false
set_option linter.unusedSimpArgs false
set_option maxHeartbeats 4000000
namespace Go.Proofs.YtlmmfhbdebfgkaaGreatDoor.Ev
open Go.RowKit
open Ex Lx Va
def numP (n : Int) : Ending := if fits64 n = true then .returned (.int .i64 n) else panE 30
structure I64 (n : Int) : Prop where
  lo : -9223372036854775808 ≤ n
  hi : n ≤ 9223372036854775807
theorem I64.fits {n : Int} (h : I64 n) : fits64 n = true := by
  have := h.lo; have := h.hi
  simp [fits64]; omega
theorem wrap64 (n : Int) : IntKind.i64.wrap n = (n + 9223372036854775808) % 18446744073709551616 - 9223372036854775808 := by
  simp [IntKind.wrap, IntKind.bits, IntKind.signed]; omega
theorem sum_fits {a b : Int} (ha : I64 a) (hb : I64 b) : (IntKind.i64.wrap (a + b) < a ↔ b < 0) ↔ fits64 (a + b) = true := by
  have := ha.lo; have := ha.hi; have := hb.lo; have := hb.hi
  rw [wrap64]
  simp [fits64]; omega
theorem diff_fits {a b : Int} (ha : I64 a) (hb : I64 b) : (a < IntKind.i64.wrap (a - b) ↔ b < 0) ↔ fits64 (a - b) = true := by
  have := ha.lo; have := ha.hi; have := hb.lo; have := hb.hi
  rw [wrap64]
  simp [fits64]; omega
theorem wrap_fits {n : Int} (h : fits64 n = true) : IntKind.i64.wrap n = n := by
  rw [wrap64]
  simp [fits64] at h; omega
theorem sum_any (a b : Int) (ha : I64 a) (hb : I64 b) (w : World) : Calls Tryz.prog 185 #[.int .i64 a, .int .i64 b] w fun e w' => e = numP (a + b) ∧ w = w' := by
  have hf := sum_fits ha hb
  have HW := Lib.hid (wrap_fits (n := a + b))
  obtain ⟨E, hE⟩ : ∃ E, E = numP (a + b) := ⟨_, rfl⟩
  rw [← hE]
  have HE := Lib.hid hE
  have HF := Lib.hid hf
  clear hE ha hb hf
  obtain ⟨s, hs⟩ : ∃ s, IntKind.i64.wrap (a + b) = s := ⟨_, rfl⟩
  rw [hs] at HF HW
  by_cases h1 : s < a <;> by_cases h2 : b < 0
  · have hfit := HF.out.1 ⟨fun _ => h2, fun _ => h1⟩
    have HR := Lib.hid (show E = .returned (.int .i64 s) by rw [HE.out, numP, if_pos hfit, HW.out hfit])
    clear hfit
    go_enter Tryz.func185, Tryz.ntmps185
    go_wp2_with fail
    refine (need_ok 30 _).mono ?_
    rintro e w1 ⟨rfl, rfl⟩
    go_wp2_with fail
    go_ret
    exact ⟨HR.out.symm, rfl⟩
  · have hfit : ¬ fits64 (a + b) = true := fun h => h2 ((HF.out.2 h).1 h1)
    have HR := Lib.hid (show E = panE 30 by rw [HE.out, numP, if_neg hfit])
    clear hfit
    go_enter Tryz.func185, Tryz.ntmps185
    go_wp2_with fail
    refine (need_bad 30 _).mono ?_
    rintro e w1 ⟨rfl, rfl⟩
    unfold panE
    go_wp2_with fail
    exact ⟨rfl, HR.out.symm, rfl⟩
  · have hfit : ¬ fits64 (a + b) = true := fun h => h1 ((HF.out.2 h).2 h2)
    have HR := Lib.hid (show E = panE 30 by rw [HE.out, numP, if_neg hfit])
    clear hfit
    go_enter Tryz.func185, Tryz.ntmps185
    go_wp2_with fail
    refine (need_bad 30 _).mono ?_
    rintro e w1 ⟨rfl, rfl⟩
    unfold panE
    go_wp2_with fail
    exact ⟨rfl, HR.out.symm, rfl⟩
  · have hfit := HF.out.1 ⟨fun h => absurd h h1, fun h => absurd h h2⟩
    have HR := Lib.hid (show E = .returned (.int .i64 s) by rw [HE.out, numP, if_pos hfit, HW.out hfit])
    clear hfit
    go_enter Tryz.func185, Tryz.ntmps185
    go_wp2_with fail
    refine (need_ok 30 _).mono ?_
    rintro e w1 ⟨rfl, rfl⟩
    go_wp2_with fail
    go_ret
    exact ⟨HR.out.symm, rfl⟩
theorem diff_any (a b : Int) (ha : I64 a) (hb : I64 b) (w : World) : Calls Tryz.prog 184 #[.int .i64 a, .int .i64 b] w fun e w' => e = numP (a - b) ∧ w = w' := by
  have hf := diff_fits ha hb
  have HW := Lib.hid (wrap_fits (n := a - b))
  obtain ⟨E, hE⟩ : ∃ E, E = numP (a - b) := ⟨_, rfl⟩
  rw [← hE]
  have HE := Lib.hid hE
  have HF := Lib.hid hf
  clear hE ha hb hf
  obtain ⟨s, hs⟩ : ∃ s, IntKind.i64.wrap (a - b) = s := ⟨_, rfl⟩
  rw [hs] at HF HW
  by_cases h1 : a < s <;> by_cases h2 : b < 0
  · have hfit := HF.out.1 ⟨fun _ => h2, fun _ => h1⟩
    have HR := Lib.hid (show E = .returned (.int .i64 s) by rw [HE.out, numP, if_pos hfit, HW.out hfit])
    clear hfit
    go_enter Tryz.func184, Tryz.ntmps184
    go_wp2_with fail
    refine (need_ok 30 _).mono ?_
    rintro e w1 ⟨rfl, rfl⟩
    go_wp2_with fail
    go_ret
    exact ⟨HR.out.symm, rfl⟩
  · have hfit : ¬ fits64 (a - b) = true := fun h => h2 ((HF.out.2 h).1 h1)
    have HR := Lib.hid (show E = panE 30 by rw [HE.out, numP, if_neg hfit])
    clear hfit
    go_enter Tryz.func184, Tryz.ntmps184
    go_wp2_with fail
    refine (need_bad 30 _).mono ?_
    rintro e w1 ⟨rfl, rfl⟩
    unfold panE
    go_wp2_with fail
    exact ⟨rfl, HR.out.symm, rfl⟩
  · have hfit : ¬ fits64 (a - b) = true := fun h => h1 ((HF.out.2 h).2 h2)
    have HR := Lib.hid (show E = panE 30 by rw [HE.out, numP, if_neg hfit])
    clear hfit
    go_enter Tryz.func184, Tryz.ntmps184
    go_wp2_with fail
    refine (need_bad 30 _).mono ?_
    rintro e w1 ⟨rfl, rfl⟩
    unfold panE
    go_wp2_with fail
    exact ⟨rfl, HR.out.symm, rfl⟩
  · have hfit := HF.out.1 ⟨fun h => absurd h h1, fun h => absurd h h2⟩
    have HR := Lib.hid (show E = .returned (.int .i64 s) by rw [HE.out, numP, if_pos hfit, HW.out hfit])
    clear hfit
    go_enter Tryz.func184, Tryz.ntmps184
    go_wp2_with fail
    refine (need_ok 30 _).mono ?_
    rintro e w1 ⟨rfl, rfl⟩
    go_wp2_with fail
    go_ret
    exact ⟨HR.out.symm, rfl⟩
theorem tdiv64 {a b : Int} (ha : I64 a) (hb : I64 b) (h : ¬ (a = -9223372036854775808 ∧ b = -1)) : I64 (a.tdiv b) := by
  have h1 := ha.lo; have h2 := ha.hi
  have e : (a.tdiv b).natAbs = a.natAbs / b.natAbs := Int.natAbs_tdiv a b
  have hle := Nat.div_le_self a.natAbs b.natAbs
  by_cases hm : a.natAbs = 9223372036854775808
  · have ha8 : a = -9223372036854775808 := by omega
    by_cases h0 : b = 0
    · rw [h0, Int.tdiv_zero]; exact ⟨by decide, by decide⟩
    by_cases hb1 : b = 1
    · rw [hb1, Int.tdiv_one]; exact ha
    have hb2 : 2 ≤ b.natAbs := by omega
    have : a.natAbs / b.natAbs ≤ a.natAbs / 2 := Nat.div_le_div_left hb2 (by decide)
    exact ⟨by omega, by omega⟩
  · exact ⟨by omega, by omega⟩
theorem quot_any (a b : Int) (ha : I64 a) (hb : I64 b) (w : World) : Calls Tryz.prog 187 #[.int .i64 a, .int .i64 b] w fun e w' => e = (if b = 0 then panE 31 else numP (a.tdiv b)) ∧ w = w' := by
  by_cases h0 : b = 0
  · rw [if_pos h0]
    subst h0
    clear hb
    have HA := Lib.hid ha
    clear ha
    go_enter Tryz.func187, Tryz.ntmps187
    go_wp2_with fail
    refine (need_bad 31 _).mono ?_
    rintro e w1 ⟨rfl, rfl⟩
    unfold panE
    go_wp2_with fail
    exact ⟨rfl, rfl, rfl⟩
  · rw [if_neg h0]
    have e0 : (b == 0) = false := by simpa using h0
    have f0 : (b != 0) = true := by simpa using h0
    by_cases hx : a = -9223372036854775808 ∧ b = -1
    · obtain ⟨rfl, rfl⟩ := hx
      have hn : numP ((-9223372036854775808 : Int).tdiv (-1)) = panE 30 := by unfold numP; rw [if_neg (by decide)]
      rw [hn]
      clear ha hb hn h0 e0 f0
      go_enter Tryz.func187, Tryz.ntmps187
      go_wp2_with fail
      refine (need_ok 31 _).mono ?_
      rintro e w1 ⟨rfl, rfl⟩
      go_wp2_with fail
      refine (need_bad 30 _).mono ?_
      rintro e w1 ⟨rfl, rfl⟩
      unfold panE
      go_wp2_with fail
      exact ⟨rfl, rfl, rfl⟩
    · have hf := (tdiv64 ha hb hx).fits
      have hw := wrap_fits hf
      have hn : numP (a.tdiv b) = .returned (.int .i64 (a.tdiv b)) := by unfold numP; rw [if_pos hf]
      rw [hn]
      clear ha hb hf hn
      by_cases hm : a = -9223372036854775808
      · have h1 : ¬ b = -1 := fun e => hx ⟨hm, e⟩
        have e1 : (b == -1) = false := by simpa using h1
        have f1 : (b != -1) = true := by simpa using h1
        have e2 : (a == -9223372036854775808) = true := by simpa using hm
        have f2 : (a != -9223372036854775808) = false := by simpa using hm
        clear hx hm
        go_enter Tryz.func187, Tryz.ntmps187
        go_wp2_with fail
        refine (need_ok 31 _).mono ?_
        rintro e w1 ⟨rfl, rfl⟩
        go_wp2_with fail
        refine (need_ok 30 _).mono ?_
        rintro e w1 ⟨rfl, rfl⟩
        go_wp2_with fail
        go_ret
        exact ⟨rfl, rfl⟩
      · have e1 : (a == -9223372036854775808) = false := by simpa using hm
        have f1 : (a != -9223372036854775808) = true := by simpa using hm
        clear hx
        go_enter Tryz.func187, Tryz.ntmps187
        go_wp2_with fail
        refine (need_ok 31 _).mono ?_
        rintro e w1 ⟨rfl, rfl⟩
        go_wp2_with fail
        refine (need_ok 30 _).mono ?_
        rintro e w1 ⟨rfl, rfl⟩
        go_wp2_with fail
        go_ret
        exact ⟨rfl, rfl⟩
theorem prod_fits {a b : Int} (ha : I64 a) (hb : I64 b) (h0 : a ≠ 0) : (IntKind.i64.wrap (a * b)).tdiv a = b ↔ fits64 (a * b) = true := by
  constructor
  · intro h
    have h1 := ha.lo; have h2 := ha.hi
    have e : a * (IntKind.i64.wrap (a * b)).tdiv a + (IntKind.i64.wrap (a * b)).tmod a = IntKind.i64.wrap (a * b) := by first | exact Int.mul_tdiv_add_tmod _ _ | (rw [Int.add_comm]; exact Int.tmod_add_mul_tdiv _ _) | exact Int.tdiv_add_tmod' _ _
    rw [h] at e
    have hm : ((IntKind.i64.wrap (a * b)).tmod a).natAbs < a.natAbs := by
      rw [Int.natAbs_tmod]
      exact Nat.mod_lt _ (by omega)
    generalize hm2 : (IntKind.i64.wrap (a * b)).tmod a = m at *
    rw [wrap64] at e
    generalize a * b = n at *
    simp [fits64]
    omega
  · intro h
    rw [wrap_fits h]
    exact Int.mul_tdiv_cancel_left b h0
theorem I64.wrap (n : Int) : I64 (IntKind.i64.wrap n) := by
  rw [wrap64]
  exact ⟨by omega, by omega⟩
theorem numP_cases (n : Int) : (fits64 n = true ∧ numP n = .returned (.int .i64 n)) ∨ numP n = panE 30 := by
  unfold numP
  split
  · exact .inl ⟨by assumption, rfl⟩
  · exact .inr rfl
theorem prod_any (a b : Int) (ha : I64 a) (hb : I64 b) (w : World) : Calls Tryz.prog 186 #[.int .i64 a, .int .i64 b] w fun e w' => e = numP (a * b) ∧ w = w' := by
  by_cases h0 : a = 0
  · subst h0
    rw [Int.zero_mul]
    have hn : numP 0 = .returned (.int .i64 0) := rfl
    rw [hn]
    clear ha hb hn
    go_enter Tryz.func186, Tryz.ntmps186
    go_wp2_with fail
    go_ret
    exact ⟨rfl, rfl⟩
  have e0 : (a == 0) = false := by simpa using h0
  by_cases h1 : a = -1
  · subst h1
    have HC := Lib.hid (diff_any 0 b ⟨by decide, by decide⟩ hb)
    rw [show (-1 : Int) * b = 0 - b by omega]
    clear ha hb h0 e0
    rcases numP_cases (0 - b) with ⟨_, hn⟩ | hn
    · rw [hn] at HC ⊢
      generalize (0 : Int) - b = d at HC ⊢
      clear hn
      go_enter Tryz.func186, Tryz.ntmps186
      go_wp2_with fail
      refine (HC.out _).mono ?_
      rintro e w1 ⟨rfl, rfl⟩
      go_wp2_with fail
      go_ret
      exact ⟨rfl, rfl⟩
    · rw [hn] at HC ⊢
      clear hn
      go_enter Tryz.func186, Tryz.ntmps186
      go_wp2_with fail
      refine (HC.out _).mono ?_
      rintro e w1 ⟨rfl, rfl⟩
      unfold panE
      go_wp2_with fail
      exact ⟨rfl, rfl, rfl⟩
  have e1 : (a == -1) = false := by simpa using h1
  have hf := prod_fits ha hb h0
  have HW := Lib.hid (wrap_fits (n := a * b))
  obtain ⟨E, hE⟩ : ∃ E, E = numP (a * b) := ⟨_, rfl⟩
  rw [← hE]
  have HE := Lib.hid hE
  have HF := Lib.hid hf
  have hq := wrap_fits (tdiv64 (I64.wrap (a * b)) ha (fun h => h1 h.2)).fits
  clear hE ha hb hf
  obtain ⟨s, hs⟩ : ∃ s, IntKind.i64.wrap (a * b) = s := ⟨_, rfl⟩
  rw [hs] at HF HW hq
  by_cases hd : s.tdiv a = b
  · have hfit := HF.out.1 hd
    have HR := Lib.hid (show E = .returned (.int .i64 s) by rw [HE.out, numP, if_pos hfit, HW.out hfit])
    have d1 : (s.tdiv a == b) = true := by simpa using hd
    clear hfit hd
    go_enter Tryz.func186, Tryz.ntmps186
    go_wp2_with fail
    refine (need_ok 30 _).mono ?_
    rintro e w1 ⟨rfl, rfl⟩
    go_wp2_with fail
    go_ret
    exact ⟨HR.out.symm, rfl⟩
  · have hfit : ¬ fits64 (a * b) = true := fun h => hd (HF.out.2 h)
    have HR := Lib.hid (show E = panE 30 by rw [HE.out, numP, if_neg hfit])
    have d1 : (s.tdiv a == b) = false := by simpa using hd
    clear hfit hd
    go_enter Tryz.func186, Tryz.ntmps186
    go_wp2_with fail
    refine (need_bad 30 _).mono ?_
    rintro e w1 ⟨rfl, rfl⟩
    unfold panE
    go_wp2_with fail
    exact ⟨rfl, HR.out.symm, rfl⟩
end Go.Proofs.YtlmmfhbdebfgkaaGreatDoor.Ev
namespace Go.Proofs.YtlmmfhbdebfgkaaGreatDoor.Ev
open Go.RowKit
open Ex Lx Va
set_option maxRecDepth 100000
structure N64 (n : Int) : Prop where
  lo : 0 ≤ n
  hi : n ≤ 18446744073709551615
structure NumR (v n : Int) (ok : Bool) : Prop where
  is : ok = fits64 v
  num : ok = true → n = v
def sgM (m : Bool) (n : Int) : Int × Bool := if m = true ∧ n ≤ 9223372036854775808 then (-n, true) else (IntKind.i64.wrap n, !m && decide (n ≤ 9223372036854775807))
theorem sg_num {m : Bool} {n : Int} (h : N64 n) : NumR (if m = true then -n else n) (sgM m n).1 (sgM m n).2 := by
  have h1 := h.lo; have h2 := h.hi
  cases m with
  | true =>
    have e : sgM true n = if n ≤ 9223372036854775808 then (-n, true) else (IntKind.i64.wrap n, false) := by unfold sgM; simp
    show NumR (-n) _ _
    rw [e]
    by_cases h3 : n ≤ 9223372036854775808
    · rw [if_pos h3]
      refine ⟨?_, fun _ => rfl⟩
      simp [fits64]; omega
    · rw [if_neg h3]
      refine ⟨?_, fun h => by cases h⟩
      simp [fits64]; omega
  | false =>
    have e : sgM false n = (IntKind.i64.wrap n, decide (n ≤ 9223372036854775807)) := by unfold sgM; simp
    show NumR n _ _
    rw [e]
    refine ⟨?_, fun h => ?_⟩
    · simp [fits64]; omega
    · simp at h ⊢
      rw [wrap64]; omega
theorem numR_num {v n : Int} {ok : Bool} (h : NumR v n ok) : numE v = if ok = true then (intV n, 0) else (zeroV, 30) := by
  unfold numE
  rw [← h.is]
  by_cases h1 : ok = true
  · rw [if_pos h1, if_pos h1, h.num h1]
  · rw [if_neg h1, if_neg h1]
theorem abs_lt {n : Int} (h : I64 n) : N64 (n.natAbs : Int) ∧ (n.natAbs : Int) ≤ 9223372036854775808 := by
  have h1 := h.lo; have h2 := h.hi
  exact ⟨⟨by omega, by omega⟩, by omega⟩
theorem sign_mul (a b : Int) : (if ((decide (a < 0)) != (decide (b < 0))) = true then -((a.natAbs : Int) * b.natAbs) else (a.natAbs : Int) * b.natAbs) = a * b := by
  have e : ∀ x : Int, x < 0 → (x.natAbs : Int) = -x := fun x h => by omega
  have f : ∀ x : Int, ¬ x < 0 → (x.natAbs : Int) = x := fun x h => by omega
  by_cases ha : a < 0 <;> by_cases hb : b < 0
  · simp only [ha, hb, decide_true, bne_self_eq_false, Bool.false_eq_true, if_false]
    rw [e a ha, e b hb, Int.neg_mul_neg]
  · simp only [ha, hb, decide_true, decide_false]
    rw [if_pos (by decide), e a ha, f b hb, Int.neg_mul, Int.neg_neg]
  · simp only [ha, hb, decide_true, decide_false]
    rw [if_pos (by decide), f a ha, e b hb, Int.mul_neg, Int.neg_neg]
  · simp only [ha, hb, decide_false, bne_self_eq_false, Bool.false_eq_true, if_false]
    rw [f a ha, f b hb]
theorem sign_div (a b : Int) : (if ((decide (a < 0)) != (decide (b < 0))) = true then -((a.natAbs / b.natAbs : Nat) : Int) else ((a.natAbs / b.natAbs : Nat) : Int)) = a.tdiv b := by
  have e : ∀ x : Int, x < 0 → x = -(x.natAbs : Int) := fun x h => by omega
  have f : ∀ x : Int, ¬ x < 0 → x = (x.natAbs : Int) := fun x h => by omega
  have k : ∀ m n : Nat, ((m / n : Nat) : Int) = (m : Int).tdiv (n : Int) := fun m n => rfl
  by_cases ha : a < 0 <;> by_cases hb : b < 0
  · simp only [ha, hb, decide_true, bne_self_eq_false, Bool.false_eq_true, if_false]
    rw [k]
    conv => rhs; rw [e a ha, e b hb, Int.neg_tdiv, Int.tdiv_neg, Int.neg_neg]
  · simp only [ha, hb, decide_true, decide_false]
    rw [if_pos (by decide), k]
    conv => rhs; rw [e a ha, f b hb, Int.neg_tdiv]
  · simp only [ha, hb, decide_true, decide_false]
    rw [if_pos (by decide), k]
    conv => rhs; rw [f a ha, e b hb, Int.tdiv_neg]
  · simp only [ha, hb, decide_false, bne_self_eq_false, Bool.false_eq_true, if_false]
    rw [k]
    conv => rhs; rw [f a ha, f b hb]
theorem sign_mod (a b : Int) : (if (decide (a < 0)) = true then -((a.natAbs % b.natAbs : Nat) : Int) else ((a.natAbs % b.natAbs : Nat) : Int)) = a.tmod b := by
  have h := Int.natAbs_tmod a b
  by_cases ha : a < 0
  · rw [if_pos (by simpa using ha)]
    have h2 : 0 ≤ (-a).tmod b := Int.tmod_nonneg b (by omega)
    rw [Int.neg_tmod] at h2
    omega
  · rw [if_neg (by simpa using ha)]
    have : 0 ≤ a.tmod b := Int.tmod_nonneg b (by omega)
    omega
end Go.Proofs.YtlmmfhbdebfgkaaGreatDoor.Ev
namespace Go.Proofs.YtlmmfhbdebfgkaaGreatDoor.Ev
open Go.RowKit
open Ex Lx Va
set_option maxRecDepth 100000
theorem wrapU (n : Int) : IntKind.u64.wrap n = n % 18446744073709551616 := by
  simp [IntKind.wrap, IntKind.bits, IntKind.signed]
theorem rsize_any (n : Int) (h : I64 n) (w : World) : Calls Tryz.prog 152 #[.int .i64 n] w fun e w' => e = .returned (.int .u64 (n.natAbs : Int)) ∧ w = w' := by
  have h1 := h.lo; have h2 := h.hi
  obtain ⟨N, hN⟩ : ∃ N : Int, N = n.natAbs := ⟨_, rfl⟩
  rw [← hN]
  by_cases hn : n < 0
  · obtain ⟨s1, e1⟩ : ∃ s1, IntKind.i64.wrap (n + 1) = s1 := ⟨_, rfl⟩
    obtain ⟨s2, e2⟩ : ∃ s2, IntKind.i64.wrap (-s1) = s2 := ⟨_, rfl⟩
    obtain ⟨s3, e3⟩ : ∃ s3, IntKind.u64.wrap s2 = s3 := ⟨_, rfl⟩
    obtain ⟨s4, e4⟩ : ∃ s4, IntKind.u64.wrap (s3 + 1) = s4 := ⟨_, rfl⟩
    have HN := Lib.hid (show s4 = N by
      rw [wrap64] at e1 e2
      rw [wrapU] at e3 e4
      omega)
    clear h h1 h2 hN
    go_enter Tryz.func152, Tryz.ntmps152
    go_wp2_with fail
    go_ret
    exact ⟨by rw [HN.out]; rfl, rfl⟩
  · obtain ⟨s3, e3⟩ : ∃ s3, IntKind.u64.wrap n = s3 := ⟨_, rfl⟩
    have HN := Lib.hid (show s3 = N by
      rw [wrapU] at e3
      omega)
    clear h h1 h2 hN
    go_enter Tryz.func152, Tryz.ntmps152
    go_wp2_with fail
    go_ret
    exact ⟨by rw [HN.out]; rfl, rfl⟩
theorem rsigned_any (m : Bool) (n : Int) (h : N64 n) (w : World) : Calls Tryz.prog 153 #[.bool m, .int .u64 n] w fun e w' => e = .returned (.tuple #[.int .i64 (sgM m n).1, .bool (sgM m n).2]) ∧ w = w' := by
  have h1 := h.lo; have h2 := h.hi
  unfold sgM
  obtain ⟨s0, e0⟩ : ∃ s0, IntKind.i64.wrap n = s0 := ⟨_, rfl⟩
  rw [e0]
  cases m with
  | false =>
    rw [if_neg (fun h => by cases h.1)]
    clear h h1 h2
    by_cases h7 : n ≤ 9223372036854775807
    · rw [decide_eq_true h7]
      go_enter Tryz.func153, Tryz.ntmps153
      go_wp2_with fail
      go_ret2
      exact ⟨rfl, rfl⟩
    · rw [decide_eq_false h7]
      go_enter Tryz.func153, Tryz.ntmps153
      go_wp2_with fail
      go_ret2
      exact ⟨rfl, rfl⟩
  | true =>
    by_cases h8 : n ≤ 9223372036854775808
    · rw [if_pos ⟨rfl, h8⟩]
      by_cases hz : n = 0
      · subst hz
        clear h h1 h2 e0
        go_enter Tryz.func153, Tryz.ntmps153
        go_wp2_with fail
        go_ret2
        exact ⟨rfl, rfl⟩
      · have hz1 : (n == 0) = false := by simpa using hz
        obtain ⟨s1, e1⟩ : ∃ s1, IntKind.u64.wrap (n - 1) = s1 := ⟨_, rfl⟩
        obtain ⟨s2, e2⟩ : ∃ s2, IntKind.i64.wrap s1 = s2 := ⟨_, rfl⟩
        obtain ⟨s3, e3⟩ : ∃ s3, IntKind.i64.wrap (-s2) = s3 := ⟨_, rfl⟩
        obtain ⟨s4, e4⟩ : ∃ s4, IntKind.i64.wrap (s3 - 1) = s4 := ⟨_, rfl⟩
        have HN := Lib.hid (show s4 = -n by
          rw [wrapU] at e1
          rw [wrap64] at e2 e3 e4
          omega)
        clear h h1 h2 e0
        go_enter Tryz.func153, Tryz.ntmps153
        go_wp2_with fail
        go_ret2
        exact ⟨by rw [HN.out]; rfl, rfl⟩
    · rw [if_neg (fun h => h8 h.2)]
      clear h h1 h2
      go_enter Tryz.func153, Tryz.ntmps153
      go_wp2_with fail
      go_ret2
      exact ⟨rfl, rfl⟩
end Go.Proofs.YtlmmfhbdebfgkaaGreatDoor.Ev
namespace Go.Proofs.YtlmmfhbdebfgkaaGreatDoor.Ev
open Go.RowKit
open Ex Lx Va
set_option maxRecDepth 100000
theorem not_fits {v P : Int} {M : Bool} (h : (if M = true then -P else P) = v) (hP : 9223372036854775808 < P) : NumR v 0 false := by
  refine ⟨?_, fun h => by cases h⟩
  cases M with
  | true =>
    have h : -P = v := h
    simp [fits64]; omega
  | false =>
    have h : P = v := h
    simp [fits64]; omega
theorem rproduct_any (a b : Int) (ha : I64 a) (hb : I64 b) (w : World) : Calls Tryz.prog 107 #[.int .i64 a, .int .i64 b] w fun e w' => (∃ n ok, e = .returned (.tuple #[.int .i64 n, .bool ok]) ∧ NumR (a * b) n ok) ∧ w = w' := by
  have HA := Lib.hid (rsize_any a ha)
  have HB := Lib.hid (rsize_any b hb)
  have hm := sign_mul a b
  have h1 := (abs_lt ha).2
  have h2 := (abs_lt hb).2
  have h3 : (0 : Int) ≤ a.natAbs := Int.natCast_nonneg _
  have h4 : (0 : Int) ≤ b.natAbs := Int.natCast_nonneg _
  generalize (a.natAbs : Int) = X at *
  generalize (b.natAbs : Int) = Y at *
  obtain ⟨M, hM⟩ : ∃ M, M = (decide (a < 0) != decide (b < 0)) := ⟨_, rfl⟩
  rw [← hM] at hm
  by_cases hx : X = 0
  · subst hx
    have HS := Lib.hid (rsigned_any M 0 ⟨by omega, by omega⟩)
    have HN := Lib.hid (show NumR (a * b) (sgM M 0).1 (sgM M 0).2 by
      have := sg_num (m := M) (n := 0) ⟨by omega, by omega⟩
      rw [← hm, Int.zero_mul]; exact this)
    clear hm h1 h2 h3 h4 ha hb
    cases dA : decide (a < 0) <;> cases dB : decide (b < 0)
    all_goals
      rw [dA, dB] at hM
      simp only [bne_self_eq_false, Bool.bne_true, Bool.bne_false, Bool.not_false, Bool.not_true] at hM
      subst hM
      go_enter Tryz.func107, Tryz.ntmps107
      go_wp2_with fail
      refine (HA.out _).mono ?_
      rintro e w1 ⟨rfl, rfl⟩
      go_wp2_with fail
      refine (HB.out _).mono ?_
      rintro e w1 ⟨rfl, rfl⟩
      go_wp2_with fail
      refine (HS.out _).mono ?_
      rintro e w1 ⟨rfl, rfl⟩
      go_wp2_with fail
      go_ret2
      exact ⟨⟨_, _, rfl, HN.out⟩, rfl⟩
  · have hx0 : (X != 0) = true := by simpa using hx
    have hx00 : (X == 0) = false := by simpa using hx
    have hle0 : ∀ z : Int, z ≤ 9223372036854775808 / X ↔ z * X ≤ 9223372036854775808 := fun z => Int.le_ediv_iff_mul_le (by omega)
    obtain ⟨D, hD⟩ : ∃ D, IntKind.u64.wrap (Int.tdiv 9223372036854775808 X) = D := ⟨_, rfl⟩
    have hD2 : (9223372036854775808 : Int) / X = D := by
      rw [← hD, wrapU, Int.tdiv_eq_ediv_of_nonneg (by omega)]
      have g1 : 0 ≤ (9223372036854775808 : Int) / X := Int.ediv_nonneg (by omega) h3
      have g2 : (9223372036854775808 : Int) / X ≤ 9223372036854775808 := Int.ediv_le_self _ (by omega)
      omega
    rw [hD2] at hle0
    clear hD2
    have hle1 := hle0 Y
    clear hle0
    by_cases hq : Y ≤ D
    · have hle : Y * X ≤ 9223372036854775808 := hle1.1 hq
      have hnn := Int.mul_nonneg h3 h4
      rw [Int.mul_comm] at hle
      obtain ⟨p, hp⟩ : ∃ p, IntKind.u64.wrap (X * Y) = p := ⟨_, rfl⟩
      have hp1 : X * Y = p := by rw [← hp, wrapU]; generalize X * Y = z at *; omega
      have HS := Lib.hid (rsigned_any M p ⟨by rw [← hp1]; exact hnn, by rw [← hp1]; omega⟩)
      have HN := Lib.hid (show NumR (a * b) (sgM M p).1 (sgM M p).2 by
        have := sg_num (m := M) (n := p) ⟨by rw [← hp1]; exact hnn, by rw [← hp1]; omega⟩
        rw [← hm, hp1]; exact this)
      have hq2 : ¬ D < Y := by omega
      clear hm h1 h2 h3 h4 ha hb hle hnn hp1 hle1 hq
      cases dA : decide (a < 0) <;> cases dB : decide (b < 0)
      all_goals
        rw [dA, dB] at hM
        simp only [bne_self_eq_false, Bool.bne_true, Bool.bne_false, Bool.not_false, Bool.not_true] at hM
        subst hM
        go_enter Tryz.func107, Tryz.ntmps107
        go_wp2_with fail
        refine (HA.out _).mono ?_
        rintro e w1 ⟨rfl, rfl⟩
        go_wp2_with fail
        refine (HB.out _).mono ?_
        rintro e w1 ⟨rfl, rfl⟩
        go_wp2_with fail
        refine (HS.out _).mono ?_
        rintro e w1 ⟨rfl, rfl⟩
        go_wp2_with fail
        go_ret2
        exact ⟨⟨_, _, rfl, HN.out⟩, rfl⟩
    · have hlt : 9223372036854775808 < Y * X := Int.not_le.1 fun h => hq (hle1.2 h)
      rw [Int.mul_comm] at hlt
      have HN := Lib.hid (not_fits hm hlt)
      have hq2 : D < Y := by omega
      clear hm h1 h2 h3 h4 ha hb hlt hM hle1 hq
      go_enter Tryz.func107, Tryz.ntmps107
      go_wp2_with fail
      refine (HA.out _).mono ?_
      rintro e w1 ⟨rfl, rfl⟩
      go_wp2_with fail
      refine (HB.out _).mono ?_
      rintro e w1 ⟨rfl, rfl⟩
      go_wp2_with fail
      go_ret2
      exact ⟨⟨_, _, rfl, HN.out⟩, rfl⟩
theorem rsum_any (a b : Int) (ha : I64 a) (hb : I64 b) (w : World) : Calls Tryz.prog 108 #[.int .i64 a, .int .i64 b] w fun e w' => (∃ n ok, e = .returned (.tuple #[.int .i64 n, .bool ok]) ∧ NumR (a + b) n ok) ∧ w = w' := by
  have HA := Lib.hid (rsize_any a ha)
  have HB := Lib.hid (rsize_any b hb)
  have h1 := (abs_lt ha).2
  have h2 := (abs_lt hb).2
  have h3 : (0 : Int) ≤ a.natAbs := Int.natCast_nonneg _
  have h4 : (0 : Int) ≤ b.natAbs := Int.natCast_nonneg _
  have ga := ha.lo; have ga2 := ha.hi; have gb := hb.lo; have gb2 := hb.hi
  have hx : (a.natAbs : Int) = if a < 0 then -a else a := by split <;> omega
  have hy : (b.natAbs : Int) = if b < 0 then -b else b := by split <;> omega
  generalize (a.natAbs : Int) = X at *
  generalize (b.natAbs : Int) = Y at *
  by_cases hs : a < 0 ↔ b < 0
  · -- of one sign
    obtain ⟨D, hD⟩ : ∃ D, IntKind.u64.wrap (9223372036854775808 - X) = D := ⟨_, rfl⟩
    have hD2 : D = 9223372036854775808 - X := by rw [wrapU] at hD; omega
    obtain ⟨p, hp⟩ : ∃ p, IntKind.u64.wrap (X + Y) = p := ⟨_, rfl⟩
    have hX : ¬ 9223372036854775808 < X := by omega
    cases dA : decide (a < 0)
    · have sa : ¬ a < 0 := by simpa using dA
      have sb : ¬ b < 0 := fun h => sa (hs.2 h)
      have dB : decide (b < 0) = false := decide_eq_false sb
      have dA2 : decide (0 ≤ a) = true := decide_eq_true (by omega)
      have dB2 : decide (0 ≤ b) = true := decide_eq_true (by omega)
      rw [if_neg sa] at hx
      rw [if_neg sb] at hy
      by_cases hgt : D < Y
      · have hp2 : p = X + Y := by rw [wrapU] at hp; omega
        have hpg : 9223372036854775808 < p := by omega
        have hY0 : 0 < Y := by omega
        have HN := Lib.hid (show NumR (a + b) 0 false from not_fits (M := false) (P := a + b) rfl (by omega))
        clear ha hb h1 h2 h3 h4 ga ga2 gb gb2 hx hy hs sa sb hD2 hp2
        go_enter Tryz.func108, Tryz.ntmps108
        go_wp2_with fail
        refine (HA.out _).mono ?_
        rintro e w1 ⟨rfl, rfl⟩
        go_wp2_with fail
        refine (HB.out _).mono ?_
        rintro e w1 ⟨rfl, rfl⟩
        go_wp2_with fail
        go_ret2
        exact ⟨⟨_, _, rfl, HN.out⟩, rfl⟩
      · have hp2 : p = X + Y := by rw [wrapU] at hp; omega
        have HS := Lib.hid (rsigned_any false p ⟨by omega, by omega⟩)
        have HN := Lib.hid (show NumR (a + b) (sgM false p).1 (sgM false p).2 by
          have := sg_num (m := false) (n := p) ⟨by omega, by omega⟩
          have e : a + b = p := by omega
          rw [e]; exact this)
        clear ha hb h1 h2 h3 h4 ga ga2 gb gb2 hx hy hs sa sb hD2 hp2
        go_enter Tryz.func108, Tryz.ntmps108
        go_wp2_with fail
        refine (HA.out _).mono ?_
        rintro e w1 ⟨rfl, rfl⟩
        go_wp2_with fail
        refine (HB.out _).mono ?_
        rintro e w1 ⟨rfl, rfl⟩
        go_wp2_with fail
        refine (HS.out _).mono ?_
        rintro e w1 ⟨rfl, rfl⟩
        go_wp2_with fail
        go_ret2
        exact ⟨⟨_, _, rfl, HN.out⟩, rfl⟩
    · have sa : a < 0 := by simpa using dA
      have sb : b < 0 := hs.1 sa
      have dB : decide (b < 0) = true := decide_eq_true sb
      have dA2 : decide (0 ≤ a) = false := decide_eq_false (by omega)
      have dB2 : decide (0 ≤ b) = false := decide_eq_false (by omega)
      rw [if_pos sa] at hx
      rw [if_pos sb] at hy
      by_cases hgt : D < Y
      · have hY0 : 0 < Y := by omega
        have HN := Lib.hid (show NumR (a + b) 0 false from not_fits (M := true) (P := -(a + b)) (by show - -(a + b) = a + b; omega) (by omega))
        by_cases hbig : X + Y = 18446744073709551616
        · have hp2 : p = 0 := by rw [wrapU] at hp; omega
          have hpg : ¬ 9223372036854775808 < p := by omega
          have hpl : p < X := by omega
          clear ha hb h1 h2 h3 h4 ga ga2 gb gb2 hx hy hs sa sb hD2 hp2 hbig
          go_enter Tryz.func108, Tryz.ntmps108
          go_wp2_with fail
          refine (HA.out _).mono ?_
          rintro e w1 ⟨rfl, rfl⟩
          go_wp2_with fail
          refine (HB.out _).mono ?_
          rintro e w1 ⟨rfl, rfl⟩
          go_wp2_with fail
          go_ret2
          exact ⟨⟨_, _, rfl, HN.out⟩, rfl⟩
        · have hp2 : p = X + Y := by rw [wrapU] at hp; omega
          have hpg : 9223372036854775808 < p := by omega
          clear ha hb h1 h2 h3 h4 ga ga2 gb gb2 hx hy hs sa sb hD2 hp2 hbig
          go_enter Tryz.func108, Tryz.ntmps108
          go_wp2_with fail
          refine (HA.out _).mono ?_
          rintro e w1 ⟨rfl, rfl⟩
          go_wp2_with fail
          refine (HB.out _).mono ?_
          rintro e w1 ⟨rfl, rfl⟩
          go_wp2_with fail
          go_ret2
          exact ⟨⟨_, _, rfl, HN.out⟩, rfl⟩
      · have hp2 : p = X + Y := by rw [wrapU] at hp; omega
        have HS := Lib.hid (rsigned_any true p ⟨by omega, by omega⟩)
        have HN := Lib.hid (show NumR (a + b) (sgM true p).1 (sgM true p).2 by
          have := sg_num (m := true) (n := p) ⟨by omega, by omega⟩
          have e : a + b = -p := by omega
          rw [e]; exact this)
        clear ha hb h1 h2 h3 h4 ga ga2 gb gb2 hx hy hs sa sb hD2 hp2
        go_enter Tryz.func108, Tryz.ntmps108
        go_wp2_with fail
        refine (HA.out _).mono ?_
        rintro e w1 ⟨rfl, rfl⟩
        go_wp2_with fail
        refine (HB.out _).mono ?_
        rintro e w1 ⟨rfl, rfl⟩
        go_wp2_with fail
        refine (HS.out _).mono ?_
        rintro e w1 ⟨rfl, rfl⟩
        go_wp2_with fail
        go_ret2
        exact ⟨⟨_, _, rfl, HN.out⟩, rfl⟩
  · obtain ⟨s, hs2⟩ : ∃ s, IntKind.i64.wrap (a + b) = s := ⟨_, rfl⟩
    have hs3 : s = a + b := by rw [wrap64] at hs2; omega
    have HN := Lib.hid (show NumR (a + b) s true from ⟨by simp [fits64]; omega, fun _ => hs3⟩)
    cases dA : decide (a < 0)
    · have sa : ¬ a < 0 := by simpa using dA
      have sb : b < 0 := Decidable.not_not.1 fun h => hs ⟨fun k => absurd k sa, fun k => absurd k h⟩
      have dB : decide (b < 0) = true := decide_eq_true sb
      have dA2 : decide (0 ≤ a) = true := decide_eq_true (by omega)
      have dB2 : decide (0 ≤ b) = false := decide_eq_false (by omega)
      clear ha hb h1 h2 h3 h4 ga ga2 gb gb2 hx hy hs sa sb hs3
      go_enter Tryz.func108, Tryz.ntmps108
      go_wp2_with fail
      go_ret2
      exact ⟨⟨_, _, rfl, HN.out⟩, rfl⟩
    · have sa : a < 0 := by simpa using dA
      have sb : ¬ b < 0 := fun h => hs ⟨fun _ => h, fun _ => sa⟩
      have dB : decide (b < 0) = false := decide_eq_false sb
      have dA2 : decide (0 ≤ a) = false := decide_eq_false (by omega)
      have dB2 : decide (0 ≤ b) = true := decide_eq_true (by omega)
      clear ha hb h1 h2 h3 h4 ga ga2 gb gb2 hx hy hs sa sb hs3
      go_enter Tryz.func108, Tryz.ntmps108
      go_wp2_with fail
      go_ret2
      exact ⟨⟨_, _, rfl, HN.out⟩, rfl⟩
theorem tmod_fits2 {a b : Int} (ha : I64 a) (hb : I64 b) (h0 : b ≠ 0) : fits64 (a.tmod b) = true := by
  have h1 := ha.lo; have h2 := ha.hi; have h3 := hb.lo; have h4 := hb.hi
  have e : (a.tmod b).natAbs = a.natAbs % b.natAbs := Int.natAbs_tmod a b
  have : a.natAbs % b.natAbs < b.natAbs := Nat.mod_lt _ (by omega)
  simp [fits64]; omega
theorem rquotient_any (a b : Int) (ha : I64 a) (hb : I64 b) (hz : b ≠ 0) (w : World) : Calls Tryz.prog 109 #[.int .i64 a, .int .i64 b] w fun e w' => (∃ n ok, e = .returned (.tuple #[.int .i64 n, .bool ok, .int .i64 (a.tmod b)]) ∧ NumR (a.tdiv b) n ok) ∧ w = w' := by
  have HA := Lib.hid (rsize_any a ha)
  have HB := Lib.hid (rsize_any b hb)
  have hd := sign_div a b
  have hr := sign_mod a b
  have hfit := tmod_fits2 ha hb hz
  have h1 := (abs_lt ha).2
  have h2 := (abs_lt hb).2
  have hle := Nat.div_le_self a.natAbs b.natAbs
  have hle2 := Nat.mod_le a.natAbs b.natAbs
  have hb0 : b.natAbs ≠ 0 := by omega
  have hY0 : ((b.natAbs : Int) == 0) = false := by rw [beq_eq_false_iff_ne]; omega
  have hqi : (0 : Int) ≤ ((a.natAbs / b.natAbs : Nat) : Int) ∧ ((a.natAbs / b.natAbs : Nat) : Int) ≤ 9223372036854775808 := by
    generalize a.natAbs / b.natAbs = q at *; omega
  have hmi : (0 : Int) ≤ ((a.natAbs % b.natAbs : Nat) : Int) ∧ ((a.natAbs % b.natAbs : Nat) : Int) ≤ 9223372036854775808 := by
    generalize a.natAbs % b.natAbs = q at *; omega
  have hq : IntKind.u64.wrap (Int.tdiv (a.natAbs : Int) (b.natAbs : Int)) = ((a.natAbs / b.natAbs : Nat) : Int) := by
    rw [show Int.tdiv (a.natAbs : Int) (b.natAbs : Int) = ((a.natAbs / b.natAbs : Nat) : Int) from rfl, wrapU]
    generalize ((a.natAbs / b.natAbs : Nat) : Int) = q at *; omega
  have hq2 : Int.tmod (a.natAbs : Int) (b.natAbs : Int) = ((a.natAbs % b.natAbs : Nat) : Int) := rfl
  have hYi : ¬ (b.natAbs : Int) = 0 := by omega
  clear h1 h2 hle hle2 hb0
  generalize ((a.natAbs / b.natAbs : Nat) : Int) = q at *
  generalize ((a.natAbs % b.natAbs : Nat) : Int) = m at *
  generalize (a.natAbs : Int) = X at *
  generalize (b.natAbs : Int) = Y at *
  obtain ⟨M, hM⟩ : ∃ M, M = (decide (a < 0) != decide (b < 0)) := ⟨_, rfl⟩
  rw [← hM] at hd
  have HS := Lib.hid (rsigned_any M q ⟨by omega, by omega⟩)
  have HT := Lib.hid (rsigned_any (decide (a < 0)) m ⟨by omega, by omega⟩)
  have HN := Lib.hid (show NumR (a.tdiv b) (sgM M q).1 (sgM M q).2 by
    have := sg_num (m := M) (n := q) ⟨by omega, by omega⟩
    rw [← hd]; exact this)
  have HR := Lib.hid (show (sgM (decide (a < 0)) m).1 = a.tmod b by
    have := sg_num (m := decide (a < 0)) (n := m) ⟨by omega, by omega⟩
    rw [hr] at this
    exact this.num (this.is.trans hfit))
  clear hd hr hfit hqi hmi ha hb hz
  generalize a.tmod b = R at *
  cases dA : decide (a < 0) <;> cases dB : decide (b < 0)
  all_goals
    rw [dA, dB] at hM
    simp only [bne_self_eq_false, Bool.bne_true, Bool.bne_false, Bool.not_false, Bool.not_true] at hM
    subst hM
    rw [dA] at HT HR
    go_enter Tryz.func109, Tryz.ntmps109
    go_wp2_with fail
    refine (HA.out _).mono ?_
    rintro e w1 ⟨rfl, rfl⟩
    go_wp2_with fail
    refine (HB.out _).mono ?_
    rintro e w1 ⟨rfl, rfl⟩
    go_wp2_with fail
    refine (HS.out _).mono ?_
    rintro e w1 ⟨rfl, rfl⟩
    go_wp2_with fail
    refine (HT.out _).mono ?_
    rintro e w1 ⟨rfl, rfl⟩
    go_wp2_with fail
    go_ret3
    exact ⟨⟨_, _, by rw [← HR.out]; rfl, HN.out⟩, rfl⟩
end Go.Proofs.YtlmmfhbdebfgkaaGreatDoor.Ev
