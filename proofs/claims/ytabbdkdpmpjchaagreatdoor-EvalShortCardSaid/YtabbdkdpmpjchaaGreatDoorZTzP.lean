/-
  Several texts in one: EvPure, EvNeed, EvNum, EvCmp, EvSm, EvGood.
-/
import Derived.Test.YtabbdkdpmpjchaaGreatDoorZTzA
import Derived.Test.YtabbdkdpmpjchaaGreatDoorZTzB
import Derived.WalkLawsBesides
import Derived.Deep.RegionHeld3
import Derived.RegionDies
import Derived.Deep.QuietTactic
import Derived.BigQuiet
import Derived.Lib.SmallJoins
import Derived.Test.YtabbdkdpmpjchaaGreatDoorZTzF
namespace Go.Proofs.YtabbdkdpmpjchaaGreatDoor.Ev
open Ex Lx Va Ty
structure En where
  attrs : List AttrP
  vals : List V
  names : List AttrP
  fields : List V
def zeroV : V := ⟨0, 0, [], []⟩
def intV (n : Int) : V := ⟨1, n, [], []⟩
def boolV (b : Bool) : V := ⟨2, if b then 1 else 0, [], []⟩
def namedV : List AttrP → List V → List UInt8 → V × Nat
  | [], _, _ => (zeroV, 22)
  | a :: r, vs, n => if a.name = n then (match vs with
      | v :: _ => if v.kind = 0 then (zeroV, 22) else (v, 0)
      | [] => (zeroV, 22)) else namedV r vs.tail n
def fits64 (n : Int) : Bool := decide (-9223372036854775808 ≤ n) && decide (n ≤ 9223372036854775807)
def numE (n : Int) : V × Nat := if fits64 n = true then (intV n, 0) else (zeroV, 30)
def arithE (o a b : Int) : V × Nat :=
  if o = 20 then numE (a * b) else if o = 23 then numE (a + b) else if o = 24 then numE (a - b)
  else if b = 0 then (zeroV, 31) else if o = 21 then numE (a.tdiv b) else numE (a.tmod b)
def allV (l : List V) (k : Int) : Bool := l.all (fun v => v.kind == k)
def argV (l : List V) (i : Nat) : V := l.getD i zeroV
def opE (o n : Int) (t : List UInt8) (l : List V) : V × Nat :=
  if o = 1 then (intV n, 0) else if o = 2 then (⟨3, 0, t, []⟩, 0) else if o = 3 then (⟨2, n, [], []⟩, 0) else if o = 4 then (⟨4, 0, t, []⟩, 0)
  else if o = 5 then (if allV l 1 = true then (⟨5, 0, [], l.map (·.num)⟩, 0) else (zeroV, 23))
  else if o = 10 then (if allV l 2 = true then (boolV ((argV l 0).num == 0), 0) else (zeroV, 23))
  else if o = 12 then (if (argV l 0).kind = 5 then (intV (argV l 0).list.length, 0) else if (argV l 0).kind = 3 then (intV (argV l 0).text.length, 0) else (zeroV, 23))
  else if o = 25 then (if (argV l 0).kind = 5 ∧ (argV l 1).kind = 1 then (if 0 ≤ (argV l 1).num ∧ (argV l 1).num < (argV l 0).list.length then (intV ((argV l 0).list.getD (argV l 1).num.toNat 0), 0) else (zeroV, 32)) else (zeroV, 23))
  else if o = 26 then (if (argV l 0).kind = 5 ∧ (argV l 1).kind = 1 then (if (argV l 0).list.length < 16 then (⟨5, 0, [], (argV l 0).list ++ [(argV l 1).num]⟩, 0) else (zeroV, 32)) else (zeroV, 23))
  else if o = 30 ∨ o = 31 then (if (argV l 0).kind = (argV l 1).kind then (boolV ((ordV (argV l 0) (argV l 1) == 0) == (o == 30)), 0) else (zeroV, 23))
  else if o = 32 ∨ o = 33 then (if allV l 1 = true ∨ allV l 3 = true then (boolV (decide (ordV (argV l 0) (argV l 1) < 0) || (o == 33 && ordV (argV l 0) (argV l 1) == 0)), 0) else (zeroV, 23))
  else if allV l 1 = false then (zeroV, 23)
  else if o = 11 then numE (-(argV l 0).num)
  else arithE o (argV l 0).num (argV l 1).num
def seqE : List (V × Nat) → List V × Nat
  | [] => ([], 0)
  | x :: r => if x.2 = 0 then (if (seqE r).2 = 0 then (x.1 :: (seqE r).1, 0) else ([], (seqE r).2)) else ([], x.2)
def juncE (o : Int) : List (V × Nat) → V × Nat
  | x :: y :: _ =>
    if x.2 ≠ 0 then (zeroV, x.2) else if x.1.kind ≠ 2 then (zeroV, 23)
    else if x.1.num = (if o = 41 then 1 else 0) then (x.1, 0)
    else if y.2 ≠ 0 then (zeroV, y.2) else if y.1.kind ≠ 2 then (zeroV, 23) else (y.1, 0)
  | _ => (zeroV, 23)
def nodeE (v : En) (o n : Int) (t : List UInt8) (l : List (V × Nat)) : V × Nat :=
  if o = 6 then namedV v.attrs v.vals t else if o = 7 then namedV v.names v.fields t
  else if o = 40 ∨ o = 41 then juncE o l
  else if (seqE l).2 = 0 then opE o n t (seqE l).1 else (zeroV, (seqE l).2)
def evL (v : En) : F → List (V × Nat)
  | .nil => []
  | .cons o n t a r => nodeE v o n t (evL v a) :: evL v r
def evT (v : En) (t : T) : V × Nat := nodeE v t.op t.num t.text (evL v t.args)
def evM (v : En) (t : T) : V × Nat := if (printM t).2 = 0 then evT v t else (zeroV, (printM t).2)
-- what isn't named makes no difference
end Go.Proofs.YtabbdkdpmpjchaaGreatDoor.Ev

namespace Go.Proofs.YtabbdkdpmpjchaaGreatDoor.Ev
open Go.RowKit
open Ex Lx Va
set_option linter.unusedVariables false
set_option linter.unusedSimpArgs false
def panE (k : Int) : Ending := .panicked [{ v := .iface 26 (.int .i64 k), recovered := false }]
theorem need_ok (k : Int) (w : World) : Calls Tryz.prog 101 #[.bool true, .int .i64 k] w fun e w' => e = .returned (.tuple #[]) ∧ w = w' := by
  go_enter Tryz.func101, Tryz.ntmps101
  go_wp2_with fail
  go_end0
  exact ⟨rfl, rfl⟩
theorem need_bad (k : Int) (w : World) : Calls Tryz.prog 101 #[.bool false, .int .i64 k] w fun e w' => e = panE k ∧ w = w' := by
  go_enter Tryz.func101, Tryz.ntmps101
  go_wp2_with fail
  exact ⟨rfl, rfl, rfl⟩
end Go.Proofs.YtabbdkdpmpjchaaGreatDoor.Ev

namespace Go.Proofs.YtabbdkdpmpjchaaGreatDoor.Ev
open Go.RowKit
open Ex Lx Va
set_option linter.unusedVariables false
set_option linter.unusedSimpArgs false
def numP (n : Int) : Ending := if fits64 n = true then .returned (.int .i64 n) else panE 30
structure I64 (n : Int) : Prop where
  lo : -9223372036854775808 ≤ n
  hi : n ≤ 9223372036854775807
theorem I64.fits {n : Int} (h : I64 n) : fits64 n = true := by
  have := h.lo; have := h.hi
  simp [fits64]; omega
theorem wrap64 (n : Int) : IntKind.i64.wrap n = (n + 9223372036854775808) % 18446744073709551616 - 9223372036854775808 := by
  simp [IntKind.wrap, IntKind.bits, IntKind.signed]; omega
theorem sum_fits {a b : Int} (ha : I64 a) (hb : I64 b) : (IntKind.i64.wrap (a + b) < a ↔ b < 0) ↔ fits64 (a + b) = true := by
  have := ha.lo; have := ha.hi; have := hb.lo; have := hb.hi
  rw [wrap64]
  simp [fits64]; omega
theorem diff_fits {a b : Int} (ha : I64 a) (hb : I64 b) : (a < IntKind.i64.wrap (a - b) ↔ b < 0) ↔ fits64 (a - b) = true := by
  have := ha.lo; have := ha.hi; have := hb.lo; have := hb.hi
  rw [wrap64]
  simp [fits64]; omega
theorem wrap_fits {n : Int} (h : fits64 n = true) : IntKind.i64.wrap n = n := by
  rw [wrap64]
  simp [fits64] at h; omega
set_option maxHeartbeats 2000000 in
theorem sum_any (a b : Int) (ha : I64 a) (hb : I64 b) (w : World) : Calls Tryz.prog 188 #[.int .i64 a, .int .i64 b] w fun e w' => e = numP (a + b) ∧ w = w' := by
  have hf := sum_fits ha hb
  have HW := Lib.hid (wrap_fits (n := a + b))
  obtain ⟨E, hE⟩ : ∃ E, E = numP (a + b) := ⟨_, rfl⟩
  rw [← hE]
  have HE := Lib.hid hE
  have HF := Lib.hid hf
  clear hE ha hb hf
  obtain ⟨s, hs⟩ : ∃ s, IntKind.i64.wrap (a + b) = s := ⟨_, rfl⟩
  rw [hs] at HF HW
  by_cases h1 : s < a <;> by_cases h2 : b < 0
  · have hfit := HF.out.1 ⟨fun _ => h2, fun _ => h1⟩
    have HR := Lib.hid (show E = .returned (.int .i64 s) by rw [HE.out, numP, if_pos hfit, HW.out hfit])
    clear hfit
    go_enter Tryz.func188, Tryz.ntmps188
    go_wp2_with fail
    refine (need_ok 30 _).mono ?_
    rintro e w1 ⟨rfl, rfl⟩
    go_wp2_with fail
    go_ret
    exact ⟨HR.out.symm, rfl⟩
  · have hfit : ¬ fits64 (a + b) = true := fun h => h2 ((HF.out.2 h).1 h1)
    have HR := Lib.hid (show E = panE 30 by rw [HE.out, numP, if_neg hfit])
    clear hfit
    go_enter Tryz.func188, Tryz.ntmps188
    go_wp2_with fail
    refine (need_bad 30 _).mono ?_
    rintro e w1 ⟨rfl, rfl⟩
    unfold panE
    go_wp2_with fail
    exact ⟨rfl, HR.out.symm, rfl⟩
  · have hfit : ¬ fits64 (a + b) = true := fun h => h1 ((HF.out.2 h).2 h2)
    have HR := Lib.hid (show E = panE 30 by rw [HE.out, numP, if_neg hfit])
    clear hfit
    go_enter Tryz.func188, Tryz.ntmps188
    go_wp2_with fail
    refine (need_bad 30 _).mono ?_
    rintro e w1 ⟨rfl, rfl⟩
    unfold panE
    go_wp2_with fail
    exact ⟨rfl, HR.out.symm, rfl⟩
  · have hfit := HF.out.1 ⟨fun h => absurd h h1, fun h => absurd h h2⟩
    have HR := Lib.hid (show E = .returned (.int .i64 s) by rw [HE.out, numP, if_pos hfit, HW.out hfit])
    clear hfit
    go_enter Tryz.func188, Tryz.ntmps188
    go_wp2_with fail
    refine (need_ok 30 _).mono ?_
    rintro e w1 ⟨rfl, rfl⟩
    go_wp2_with fail
    go_ret
    exact ⟨HR.out.symm, rfl⟩
set_option maxHeartbeats 2000000 in
theorem diff_any (a b : Int) (ha : I64 a) (hb : I64 b) (w : World) : Calls Tryz.prog 187 #[.int .i64 a, .int .i64 b] w fun e w' => e = numP (a - b) ∧ w = w' := by
  have hf := diff_fits ha hb
  have HW := Lib.hid (wrap_fits (n := a - b))
  obtain ⟨E, hE⟩ : ∃ E, E = numP (a - b) := ⟨_, rfl⟩
  rw [← hE]
  have HE := Lib.hid hE
  have HF := Lib.hid hf
  clear hE ha hb hf
  obtain ⟨s, hs⟩ : ∃ s, IntKind.i64.wrap (a - b) = s := ⟨_, rfl⟩
  rw [hs] at HF HW
  by_cases h1 : a < s <;> by_cases h2 : b < 0
  · have hfit := HF.out.1 ⟨fun _ => h2, fun _ => h1⟩
    have HR := Lib.hid (show E = .returned (.int .i64 s) by rw [HE.out, numP, if_pos hfit, HW.out hfit])
    clear hfit
    go_enter Tryz.func187, Tryz.ntmps187
    go_wp2_with fail
    refine (need_ok 30 _).mono ?_
    rintro e w1 ⟨rfl, rfl⟩
    go_wp2_with fail
    go_ret
    exact ⟨HR.out.symm, rfl⟩
  · have hfit : ¬ fits64 (a - b) = true := fun h => h2 ((HF.out.2 h).1 h1)
    have HR := Lib.hid (show E = panE 30 by rw [HE.out, numP, if_neg hfit])
    clear hfit
    go_enter Tryz.func187, Tryz.ntmps187
    go_wp2_with fail
    refine (need_bad 30 _).mono ?_
    rintro e w1 ⟨rfl, rfl⟩
    unfold panE
    go_wp2_with fail
    exact ⟨rfl, HR.out.symm, rfl⟩
  · have hfit : ¬ fits64 (a - b) = true := fun h => h1 ((HF.out.2 h).2 h2)
    have HR := Lib.hid (show E = panE 30 by rw [HE.out, numP, if_neg hfit])
    clear hfit
    go_enter Tryz.func187, Tryz.ntmps187
    go_wp2_with fail
    refine (need_bad 30 _).mono ?_
    rintro e w1 ⟨rfl, rfl⟩
    unfold panE
    go_wp2_with fail
    exact ⟨rfl, HR.out.symm, rfl⟩
  · have hfit := HF.out.1 ⟨fun h => absurd h h1, fun h => absurd h h2⟩
    have HR := Lib.hid (show E = .returned (.int .i64 s) by rw [HE.out, numP, if_pos hfit, HW.out hfit])
    clear hfit
    go_enter Tryz.func187, Tryz.ntmps187
    go_wp2_with fail
    refine (need_ok 30 _).mono ?_
    rintro e w1 ⟨rfl, rfl⟩
    go_wp2_with fail
    go_ret
    exact ⟨HR.out.symm, rfl⟩
theorem tdiv64 {a b : Int} (ha : I64 a) (hb : I64 b) (h : ¬ (a = -9223372036854775808 ∧ b = -1)) : I64 (a.tdiv b) := by
  have h1 := ha.lo; have h2 := ha.hi
  have e : (a.tdiv b).natAbs = a.natAbs / b.natAbs := Int.natAbs_tdiv a b
  have hle := Nat.div_le_self a.natAbs b.natAbs
  by_cases hm : a.natAbs = 9223372036854775808
  · have ha8 : a = -9223372036854775808 := by omega
    by_cases h0 : b = 0
    · rw [h0, Int.tdiv_zero]; exact ⟨by decide, by decide⟩
    by_cases hb1 : b = 1
    · rw [hb1, Int.tdiv_one]; exact ha
    have hb2 : 2 ≤ b.natAbs := by omega
    have : a.natAbs / b.natAbs ≤ a.natAbs / 2 := Nat.div_le_div_left hb2 (by decide)
    exact ⟨by omega, by omega⟩
  · exact ⟨by omega, by omega⟩
set_option maxHeartbeats 2000000 in
theorem quot_any (a b : Int) (ha : I64 a) (hb : I64 b) (w : World) : Calls Tryz.prog 190 #[.int .i64 a, .int .i64 b] w fun e w' => e = (if b = 0 then panE 31 else numP (a.tdiv b)) ∧ w = w' := by
  by_cases h0 : b = 0
  · rw [if_pos h0]
    subst h0
    clear hb
    have HA := Lib.hid ha
    clear ha
    go_enter Tryz.func190, Tryz.ntmps190
    go_wp2_with fail
    refine (need_bad 31 _).mono ?_
    rintro e w1 ⟨rfl, rfl⟩
    unfold panE
    go_wp2_with fail
    exact ⟨rfl, rfl, rfl⟩
  · rw [if_neg h0]
    have e0 : (b == 0) = false := by simpa using h0
    have f0 : (b != 0) = true := by simpa using h0
    by_cases hx : a = -9223372036854775808 ∧ b = -1
    · obtain ⟨rfl, rfl⟩ := hx
      have hn : numP ((-9223372036854775808 : Int).tdiv (-1)) = panE 30 := by unfold numP; rw [if_neg (by decide)]
      rw [hn]
      clear ha hb hn h0 e0 f0
      go_enter Tryz.func190, Tryz.ntmps190
      go_wp2_with fail
      refine (need_ok 31 _).mono ?_
      rintro e w1 ⟨rfl, rfl⟩
      go_wp2_with fail
      refine (need_bad 30 _).mono ?_
      rintro e w1 ⟨rfl, rfl⟩
      unfold panE
      go_wp2_with fail
      exact ⟨rfl, rfl, rfl⟩
    · have hf := (tdiv64 ha hb hx).fits
      have hw := wrap_fits hf
      have hn : numP (a.tdiv b) = .returned (.int .i64 (a.tdiv b)) := by unfold numP; rw [if_pos hf]
      rw [hn]
      clear ha hb hf hn
      by_cases hm : a = -9223372036854775808
      · have h1 : ¬ b = -1 := fun e => hx ⟨hm, e⟩
        have e1 : (b == -1) = false := by simpa using h1
        have f1 : (b != -1) = true := by simpa using h1
        have e2 : (a == -9223372036854775808) = true := by simpa using hm
        have f2 : (a != -9223372036854775808) = false := by simpa using hm
        clear hx hm
        go_enter Tryz.func190, Tryz.ntmps190
        go_wp2_with fail
        refine (need_ok 31 _).mono ?_
        rintro e w1 ⟨rfl, rfl⟩
        go_wp2_with fail
        refine (need_ok 30 _).mono ?_
        rintro e w1 ⟨rfl, rfl⟩
        go_wp2_with fail
        go_ret
        exact ⟨rfl, rfl⟩
      · have e1 : (a == -9223372036854775808) = false := by simpa using hm
        have f1 : (a != -9223372036854775808) = true := by simpa using hm
        clear hx
        go_enter Tryz.func190, Tryz.ntmps190
        go_wp2_with fail
        refine (need_ok 31 _).mono ?_
        rintro e w1 ⟨rfl, rfl⟩
        go_wp2_with fail
        refine (need_ok 30 _).mono ?_
        rintro e w1 ⟨rfl, rfl⟩
        go_wp2_with fail
        go_ret
        exact ⟨rfl, rfl⟩
theorem prod_fits {a b : Int} (ha : I64 a) (hb : I64 b) (h0 : a ≠ 0) : (IntKind.i64.wrap (a * b)).tdiv a = b ↔ fits64 (a * b) = true := by
  constructor
  · intro h
    have h1 := ha.lo; have h2 := ha.hi
    have e : a * (IntKind.i64.wrap (a * b)).tdiv a + (IntKind.i64.wrap (a * b)).tmod a = IntKind.i64.wrap (a * b) := by first | exact Int.mul_tdiv_add_tmod _ _ | (rw [Int.add_comm]; exact Int.tmod_add_mul_tdiv _ _) | exact Int.tdiv_add_tmod' _ _
    rw [h] at e
    have hm : ((IntKind.i64.wrap (a * b)).tmod a).natAbs < a.natAbs := by
      rw [Int.natAbs_tmod]
      exact Nat.mod_lt _ (by omega)
    generalize hm2 : (IntKind.i64.wrap (a * b)).tmod a = m at *
    rw [wrap64] at e
    generalize a * b = n at *
    simp [fits64]
    omega
  · intro h
    rw [wrap_fits h]
    exact Int.mul_tdiv_cancel_left b h0
theorem I64.wrap (n : Int) : I64 (IntKind.i64.wrap n) := by
  rw [wrap64]
  exact ⟨by omega, by omega⟩
theorem numP_cases (n : Int) : (fits64 n = true ∧ numP n = .returned (.int .i64 n)) ∨ numP n = panE 30 := by
  unfold numP
  split
  · exact .inl ⟨by assumption, rfl⟩
  · exact .inr rfl
set_option maxHeartbeats 2000000 in
theorem prod_any (a b : Int) (ha : I64 a) (hb : I64 b) (w : World) : Calls Tryz.prog 189 #[.int .i64 a, .int .i64 b] w fun e w' => e = numP (a * b) ∧ w = w' := by
  by_cases h0 : a = 0
  · subst h0
    rw [Int.zero_mul]
    have hn : numP 0 = .returned (.int .i64 0) := rfl
    rw [hn]
    clear ha hb hn
    go_enter Tryz.func189, Tryz.ntmps189
    go_wp2_with fail
    go_ret
    exact ⟨rfl, rfl⟩
  have e0 : (a == 0) = false := by simpa using h0
  by_cases h1 : a = -1
  · subst h1
    have HC := Lib.hid (diff_any 0 b ⟨by decide, by decide⟩ hb)
    rw [show (-1 : Int) * b = 0 - b by omega]
    clear ha hb h0 e0
    rcases numP_cases (0 - b) with ⟨_, hn⟩ | hn
    · rw [hn] at HC ⊢
      generalize (0 : Int) - b = d at HC ⊢
      clear hn
      go_enter Tryz.func189, Tryz.ntmps189
      go_wp2_with fail
      refine (HC.out _).mono ?_
      rintro e w1 ⟨rfl, rfl⟩
      go_wp2_with fail
      go_ret
      exact ⟨rfl, rfl⟩
    · rw [hn] at HC ⊢
      clear hn
      go_enter Tryz.func189, Tryz.ntmps189
      go_wp2_with fail
      refine (HC.out _).mono ?_
      rintro e w1 ⟨rfl, rfl⟩
      unfold panE
      go_wp2_with fail
      exact ⟨rfl, rfl, rfl⟩
  have e1 : (a == -1) = false := by simpa using h1
  have hf := prod_fits ha hb h0
  have HW := Lib.hid (wrap_fits (n := a * b))
  obtain ⟨E, hE⟩ : ∃ E, E = numP (a * b) := ⟨_, rfl⟩
  rw [← hE]
  have HE := Lib.hid hE
  have HF := Lib.hid hf
  have hq := wrap_fits (tdiv64 (I64.wrap (a * b)) ha (fun h => h1 h.2)).fits
  clear hE ha hb hf
  obtain ⟨s, hs⟩ : ∃ s, IntKind.i64.wrap (a * b) = s := ⟨_, rfl⟩
  rw [hs] at HF HW hq
  by_cases hd : s.tdiv a = b
  · have hfit := HF.out.1 hd
    have HR := Lib.hid (show E = .returned (.int .i64 s) by rw [HE.out, numP, if_pos hfit, HW.out hfit])
    have d1 : (s.tdiv a == b) = true := by simpa using hd
    clear hfit hd
    go_enter Tryz.func189, Tryz.ntmps189
    go_wp2_with fail
    refine (need_ok 30 _).mono ?_
    rintro e w1 ⟨rfl, rfl⟩
    go_wp2_with fail
    go_ret
    exact ⟨HR.out.symm, rfl⟩
  · have hfit : ¬ fits64 (a * b) = true := fun h => hd (HF.out.2 h)
    have HR := Lib.hid (show E = panE 30 by rw [HE.out, numP, if_neg hfit])
    have d1 : (s.tdiv a == b) = false := by simpa using hd
    clear hfit hd
    go_enter Tryz.func189, Tryz.ntmps189
    go_wp2_with fail
    refine (need_bad 30 _).mono ?_
    rintro e w1 ⟨rfl, rfl⟩
    unfold panE
    go_wp2_with fail
    exact ⟨rfl, HR.out.symm, rfl⟩
end Go.Proofs.YtabbdkdpmpjchaaGreatDoor.Ev

namespace Go.Proofs.YtabbdkdpmpjchaaGreatDoor.Ev
open Go.RowKit
open Ex Lx Va
set_option linter.unusedVariables false
set_option linter.unusedSimpArgs false
set_option maxHeartbeats 4000000 in
theorem comp_11 (a : Int) (ha : I64 a) (g o c : Nat) (w : World) (h0 : w.cell? ⟨g, o, none⟩ = some (.int .i64 a)) :
    Calls Tryz.prog 153 #[.int .i64 11, .slice (some ⟨g, o, none⟩) 1 c] w fun e w' => e = numP (0 - a) ∧ Below w.heap.size w w' := by
  have HC := Lib.hid (diff_any 0 a ⟨by decide, by decide⟩ ha)
  have HB := Lib.hid (Below.refl w.heap.size w)
  clear ha
  rcases numP_cases (0 - a) with ⟨_, hn⟩ | hn
  · rw [hn] at HC ⊢
    generalize (0 : Int) - a = d at HC ⊢
    clear hn
    go_enter Tryz.func153, Tryz.ntmps153
    go_wp2_with fail
    refine (HC.out _).mono ?_
    rintro e w1 ⟨rfl, rfl⟩
    go_wp2_with fail
    go_ret
    exact ⟨rfl, HB.out⟩
  · rw [hn] at HC ⊢
    clear hn
    go_enter Tryz.func153, Tryz.ntmps153
    go_wp2_with fail
    refine (HC.out _).mono ?_
    rintro e w1 ⟨rfl, rfl⟩
    unfold panE
    go_wp2_with fail
    exact ⟨rfl, rfl, HB.out⟩
set_option maxHeartbeats 4000000 in
theorem comp_23 (a b : Int) (ha : I64 a) (hb : I64 b) (g o c : Nat) (w : World) (h0 : w.cell? ⟨g, o, none⟩ = some (.int .i64 a)) (h1 : w.cell? ⟨g, o + 1, none⟩ = some (.int .i64 b)) :
    Calls Tryz.prog 153 #[.int .i64 23, .slice (some ⟨g, o, none⟩) 2 c] w fun e w' => e = numP (a + b) ∧ Below w.heap.size w w' := by
  have HC := Lib.hid (sum_any a b ha hb)
  have HF := Lib.hid (show w.cell? ⟨g, o, none⟩ = some (.int .i64 a) ∧ w.cell? ⟨g, o + 1, none⟩ = some (.int .i64 b) from ⟨h0, h1⟩)
  have HB := Lib.hid (Below.refl w.heap.size w).drew
  clear ha hb
  rcases numP_cases (a + b) with ⟨_, hn⟩ | hn
  · rw [hn] at HC ⊢
    generalize a + b = d at HC ⊢
    clear hn
    go_enter Tryz.func153, Tryz.ntmps153
    go_wp2_with fail
    go_region_held3 (fun w' => w'.cell? ⟨g, o, none⟩ = some (.int .i64 a) ∧ w'.cell? ⟨g, o + 1, none⟩ = some (.int .i64 b))
      (first | assumption | exact HF.out | exact ⟨by assumption, by assumption⟩ | go_keep)
      (first
        | (go_at_call 188; (with_reducible refine (HC.out _).mono ?_); rintro e w1 ⟨rfl, rfl⟩))
    go_wp2_with fail
    go_ret
    exact ⟨rfl, HB.out⟩
  · rw [hn] at HC ⊢
    clear hn
    go_enter Tryz.func153, Tryz.ntmps153
    go_wp2_with fail
    go_region_dies
    all_goals (try go_wp2_with fail)
    all_goals (try (refine (HC.out _).mono ?_))
    all_goals (try (rintro e w1 ⟨rfl, rfl⟩; unfold panE))
    all_goals (first | exact ⟨rfl, rfl, HB.out⟩ | (go_wp2_with fail; exact ⟨rfl, rfl, HB.out⟩))
set_option maxHeartbeats 4000000 in
theorem comp_24 (a b : Int) (ha : I64 a) (hb : I64 b) (g o c : Nat) (w : World) (h0 : w.cell? ⟨g, o, none⟩ = some (.int .i64 a)) (h1 : w.cell? ⟨g, o + 1, none⟩ = some (.int .i64 b)) :
    Calls Tryz.prog 153 #[.int .i64 24, .slice (some ⟨g, o, none⟩) 2 c] w fun e w' => e = numP (a - b) ∧ Below w.heap.size w w' := by
  have HC := Lib.hid (diff_any a b ha hb)
  have HF := Lib.hid (show w.cell? ⟨g, o, none⟩ = some (.int .i64 a) ∧ w.cell? ⟨g, o + 1, none⟩ = some (.int .i64 b) from ⟨h0, h1⟩)
  have HB := Lib.hid (Below.refl w.heap.size w).drew
  clear ha hb
  rcases numP_cases (a - b) with ⟨_, hn⟩ | hn
  · rw [hn] at HC ⊢
    generalize a - b = d at HC ⊢
    clear hn
    go_enter Tryz.func153, Tryz.ntmps153
    go_wp2_with fail
    go_region_held3 (fun w' => w'.cell? ⟨g, o, none⟩ = some (.int .i64 a) ∧ w'.cell? ⟨g, o + 1, none⟩ = some (.int .i64 b))
      (first | assumption | exact HF.out | exact ⟨by assumption, by assumption⟩ | go_keep)
      (first
        | (go_at_call 187; (with_reducible refine (HC.out _).mono ?_); rintro e w1 ⟨rfl, rfl⟩))
    go_wp2_with fail
    go_ret
    exact ⟨rfl, HB.out⟩
  · rw [hn] at HC ⊢
    clear hn
    go_enter Tryz.func153, Tryz.ntmps153
    go_wp2_with fail
    go_region_dies
    all_goals (try go_wp2_with fail)
    all_goals (try (refine (HC.out _).mono ?_))
    all_goals (try (rintro e w1 ⟨rfl, rfl⟩; unfold panE))
    all_goals (first | exact ⟨rfl, rfl, HB.out⟩ | (go_wp2_with fail; exact ⟨rfl, rfl, HB.out⟩))
set_option maxHeartbeats 4000000 in
theorem comp_20 (a b : Int) (ha : I64 a) (hb : I64 b) (g o c : Nat) (w : World) (h0 : w.cell? ⟨g, o, none⟩ = some (.int .i64 a)) (h1 : w.cell? ⟨g, o + 1, none⟩ = some (.int .i64 b)) :
    Calls Tryz.prog 153 #[.int .i64 20, .slice (some ⟨g, o, none⟩) 2 c] w fun e w' => e = numP (a * b) ∧ Below w.heap.size w w' := by
  have HC := Lib.hid (prod_any a b ha hb)
  have HF := Lib.hid (show w.cell? ⟨g, o, none⟩ = some (.int .i64 a) ∧ w.cell? ⟨g, o + 1, none⟩ = some (.int .i64 b) from ⟨h0, h1⟩)
  have HB := Lib.hid (Below.refl w.heap.size w).drew
  clear ha hb
  rcases numP_cases (a * b) with ⟨_, hn⟩ | hn
  · rw [hn] at HC ⊢
    generalize a * b = d at HC ⊢
    clear hn
    go_enter Tryz.func153, Tryz.ntmps153
    go_wp2_with fail
    go_region_held3 (fun w' => w'.cell? ⟨g, o, none⟩ = some (.int .i64 a) ∧ w'.cell? ⟨g, o + 1, none⟩ = some (.int .i64 b))
      (first | assumption | exact HF.out | exact ⟨by assumption, by assumption⟩ | go_keep)
      (first
        | (go_at_call 189; (with_reducible refine (HC.out _).mono ?_); rintro e w1 ⟨rfl, rfl⟩))
    go_wp2_with fail
    go_ret
    exact ⟨rfl, HB.out⟩
  · rw [hn] at HC ⊢
    clear hn
    go_enter Tryz.func153, Tryz.ntmps153
    go_wp2_with fail
    go_region_dies
    all_goals (try go_wp2_with fail)
    all_goals (try (refine (HC.out _).mono ?_))
    all_goals (try (rintro e w1 ⟨rfl, rfl⟩; unfold panE))
    all_goals (first | exact ⟨rfl, rfl, HB.out⟩ | (go_wp2_with fail; exact ⟨rfl, rfl, HB.out⟩))
set_option maxHeartbeats 4000000 in
theorem comp_21 (a b : Int) (ha : I64 a) (hb : I64 b) (g o c : Nat) (w : World) (h0 : w.cell? ⟨g, o, none⟩ = some (.int .i64 a)) (h1 : w.cell? ⟨g, o + 1, none⟩ = some (.int .i64 b)) :
    Calls Tryz.prog 153 #[.int .i64 21, .slice (some ⟨g, o, none⟩) 2 c] w fun e w' => e = (if b = 0 then panE 31 else numP (a.tdiv b)) ∧ Below w.heap.size w w' := by
  have HC := Lib.hid (quot_any a b ha hb)
  have HF := Lib.hid (show w.cell? ⟨g, o, none⟩ = some (.int .i64 a) ∧ w.cell? ⟨g, o + 1, none⟩ = some (.int .i64 b) from ⟨h0, h1⟩)
  have HB := Lib.hid (Below.refl w.heap.size w).drew
  clear ha hb
  by_cases hz : b = 0
  · rw [if_pos hz] at HC ⊢
    clear hz
    go_enter Tryz.func153, Tryz.ntmps153
    go_wp2_with fail
    go_region_dies
    all_goals (try go_wp2_with fail)
    all_goals (try (refine (HC.out _).mono ?_))
    all_goals (try (rintro e w1 ⟨rfl, rfl⟩; unfold panE))
    all_goals (first | exact ⟨rfl, rfl, HB.out⟩ | (go_wp2_with fail; exact ⟨rfl, rfl, HB.out⟩))
  rw [if_neg hz] at HC ⊢
  clear hz
  rcases numP_cases (a.tdiv b) with ⟨_, hn⟩ | hn
  · rw [hn] at HC ⊢
    generalize a.tdiv b = d at HC ⊢
    clear hn
    go_enter Tryz.func153, Tryz.ntmps153
    go_wp2_with fail
    go_region_held3 (fun w' => w'.cell? ⟨g, o, none⟩ = some (.int .i64 a) ∧ w'.cell? ⟨g, o + 1, none⟩ = some (.int .i64 b))
      (first | assumption | exact HF.out | exact ⟨by assumption, by assumption⟩ | go_keep)
      (first
        | (go_at_call 190; (with_reducible refine (HC.out _).mono ?_); rintro e w1 ⟨rfl, rfl⟩))
    go_wp2_with fail
    go_ret
    exact ⟨rfl, HB.out⟩
  · rw [hn] at HC ⊢
    clear hn
    go_enter Tryz.func153, Tryz.ntmps153
    go_wp2_with fail
    go_region_dies
    all_goals (try go_wp2_with fail)
    all_goals (try (refine (HC.out _).mono ?_))
    all_goals (try (rintro e w1 ⟨rfl, rfl⟩; unfold panE))
    all_goals (first | exact ⟨rfl, rfl, HB.out⟩ | (go_wp2_with fail; exact ⟨rfl, rfl, HB.out⟩))
set_option maxHeartbeats 4000000 in
theorem comp_22 (a b : Int) (ha : I64 a) (hb : I64 b) (g o c : Nat) (w : World) (h0 : w.cell? ⟨g, o, none⟩ = some (.int .i64 a)) (h1 : w.cell? ⟨g, o + 1, none⟩ = some (.int .i64 b)) :
    Calls Tryz.prog 153 #[.int .i64 22, .slice (some ⟨g, o, none⟩) 2 c] w fun e w' => e = (if b = 0 then panE 31 else .returned (.int .i64 (a.tmod b))) ∧ Below w.heap.size w w' := by
  have HF := Lib.hid (show w.cell? ⟨g, o, none⟩ = some (.int .i64 a) ∧ w.cell? ⟨g, o + 1, none⟩ = some (.int .i64 b) from ⟨h0, h1⟩)
  have HB := Lib.hid (Below.refl w.heap.size w).drew
  have HB0 := Lib.hid (Below.refl w.heap.size w)
  clear ha hb
  by_cases hz : b = 0
  · rw [if_pos hz]
    subst hz
    go_enter Tryz.func153, Tryz.ntmps153
    go_wp2_with fail
    refine (need_bad 31 _).mono ?_
    rintro e w1 ⟨rfl, rfl⟩
    unfold panE
    go_wp2_with fail
    exact ⟨rfl, rfl, HB0.out⟩
  · rw [if_neg hz]
    have e0 : (b == 0) = false := by simpa using hz
    have f0 : (b != 0) = true := by simpa using hz
    go_enter Tryz.func153, Tryz.ntmps153
    go_wp2_with fail
    refine (need_ok 31 _).mono ?_
    rintro e w1 ⟨rfl, rfl⟩
    go_wp2_with fail
    go_region_held3 (fun w' => w'.cell? ⟨g, o, none⟩ = some (.int .i64 a) ∧ w'.cell? ⟨g, o + 1, none⟩ = some (.int .i64 b))
      (first | assumption | exact HF.out | exact ⟨by assumption, by assumption⟩ | go_keep)
      (fail)
    go_wp2_with fail
    go_ret
    exact ⟨rfl, HB.out⟩
end Go.Proofs.YtabbdkdpmpjchaaGreatDoor.Ev

namespace Go.Proofs.YtabbdkdpmpjchaaGreatDoor.Ev
open Go.RowKit
open Ex Lx Va
set_option linter.unusedVariables false
set_option linter.unusedSimpArgs false
def vA (k n : Int) (t : List UInt8) (a : Option Addr) (len cap : Nat) : Value := .agg #[.int .i64 k, .int .i64 n, .string (S t), .slice a len cap]
set_option maxHeartbeats 1000000 in
theorem boolean_any (b : Bool) (w : World) : Calls Tryz.prog 103 #[.bool b] w fun e w' => e = .returned (valC (boolV b) none 0) ∧ Below w.heap.size w w' := by
  cases b with
  | true =>
    go_enter Tryz.func103, Tryz.ntmps103
    go_wp2_with fail
    exact bodyPost_ret (v := .agg #[.int .i64 2, .int .i64 1, .string ⟨#[]⟩, .slice none 0 0]) (by simp [results, Tryz.results103, go_sem]) rfl ⟨rfl, (Below.refl w.heap.size w).alloc (Nat.le_refl _) _⟩
  | false =>
    go_enter Tryz.func103, Tryz.ntmps103
    go_wp2_with fail
    exact bodyPost_ret (v := .agg #[.int .i64 2, .int .i64 0, .string ⟨#[]⟩, .slice none 0 0]) (by simp [results, Tryz.results103, go_sem]) rfl ⟨rfl, (Below.refl w.heap.size w).alloc (Nat.le_refl _) _⟩
set_option maxHeartbeats 1000000 in
theorem truth_any (k n : Int) (t : List UInt8) (a : Option Addr) (len cap : Nat) (w : World) : Calls Tryz.prog 102 #[vA k n t a len cap] w fun e w' => e = (if k = 2 then .returned (.bool (n == 1)) else panE 23) ∧ Below w.heap.size w w' := by
  have HB := Lib.hid ((Below.refl w.heap.size w).alloc (Nat.le_refl _) (.cells #[.int .i64 k, .int .i64 n, .string (S t), .slice a len cap] 52))
  unfold vA
  by_cases hk : k = 2
  · rw [if_pos hk]
    subst hk
    go_enter Tryz.func102, Tryz.ntmps102
    go_wp2_with fail
    refine (need_ok 23 _).mono ?_
    rintro e w1 ⟨rfl, rfl⟩
    go_wp2_with fail
    go_ret
    exact ⟨rfl, HB.out⟩
  · rw [if_neg hk]
    have e1 : (k == 2) = false := by simpa using hk
    go_enter Tryz.func102, Tryz.ntmps102
    go_wp2_with fail
    refine (need_bad 23 _).mono ?_
    rintro e w1 ⟨rfl, rfl⟩
    unfold panE
    go_wp2_with fail
    exact ⟨rfl, rfl, HB.out⟩
set_option maxHeartbeats 1000000 in
theorem size_any (k n : Int) (t : List UInt8) (a : Option Addr) (len cap : Nat) (w : World) : Calls Tryz.prog 151 #[vA k n t a len cap] w fun e w' => e = (if k = 5 then .returned (.int .i64 (len : Int)) else if k = 3 then .returned (.int .i64 (t.length : Int)) else panE 23) ∧ Below w.heap.size w w' := by
  have HB := Lib.hid ((Below.refl w.heap.size w).alloc (Nat.le_refl _) (.cells #[.int .i64 k, .int .i64 n, .string (S t), .slice a len cap] 52))
  unfold vA
  have hts : (S t).size = t.length := S_size t
  by_cases hk : k = 5
  · rw [if_pos hk]
    subst hk
    go_enter Tryz.func151, Tryz.ntmps151
    go_wp2_with fail
    refine (need_ok 23 _).mono ?_
    rintro e w1 ⟨rfl, rfl⟩
    go_wp2_with fail
    go_ret
    exact ⟨rfl, HB.out⟩
  rw [if_neg hk]
  have e5 : (k == 5) = false := by simpa using hk
  by_cases hk3 : k = 3
  · rw [if_pos hk3]
    subst hk3
    go_enter Tryz.func151, Tryz.ntmps151
    go_wp2_with fail
    refine (need_ok 23 _).mono ?_
    rintro e w1 ⟨rfl, rfl⟩
    go_wp2_with fail
    go_ret
    exact ⟨rfl, HB.out⟩
  · rw [if_neg hk3]
    have e1 : (k == 3) = false := by simpa using hk3
    go_enter Tryz.func151, Tryz.ntmps151
    go_wp2_with fail
    refine (need_bad 23 _).mono ?_
    rintro e w1 ⟨rfl, rfl⟩
    unfold panE
    go_wp2_with fail
    exact ⟨rfl, rfl, HB.out⟩
set_option maxRecDepth 100000 in
set_option maxHeartbeats 2000000 in
theorem at_any (k n : Int) (t : List UInt8) (a : Option Addr) (l : List Int) (len cap : Nat) (hlen : len = l.length) (k2 n2 : Int) (t2 : List UInt8) (a2 : Option Addr) (len2 cap2 : Nat) (w : World) (hl : NumsAt w a l) (hll : l.length ≤ 281474976710656) :
    Calls Tryz.prog 152 #[vA k n t a len cap, vA k2 n2 t2 a2 len2 cap2] w fun e w' => e = (if k = 5 ∧ k2 = 1 then (if 0 ≤ n2 ∧ n2 < (l.length : Int) then .returned (.int .i64 (l.getD n2.toNat 0)) else panE 32) else panE 23) ∧ Below w.heap.size w w' := by
  have HB0 := (Below.refl w.heap.size w).alloc (Nat.le_refl _) (.cells #[.int .i64 k, .int .i64 n, .string (S t), .slice a len cap] 52)
  have HB := Lib.hid (HB0.alloc (by simp) (.cells #[.int .i64 k2, .int .i64 n2, .string (S t2), .slice a2 len2 cap2] 52))
  unfold vA
  subst hlen
  have hli : (l.length : Int) ≤ 281474976710656 := by omega
  by_cases hk : k = 5
  · subst hk
    by_cases hk2 : k2 = 1
    · subst hk2
      rw [if_pos ⟨rfl, rfl⟩]
      by_cases h0 : 0 ≤ n2
      · by_cases h1 : n2 < (l.length : Int)
        · rw [if_pos ⟨h0, h1⟩]
          obtain ⟨i, rfl⟩ : ∃ i : Nat, n2 = (i : Int) := ⟨n2.toNat, by omega⟩
          have hi : i < l.length := by omega
          obtain ⟨g, off, rfl, hc, hg⟩ := hl i hi
          have f0 := (HB.out.cell (p := ⟨g, off + i, none⟩) hg).trans hc
          have hgl := Nat.lt_of_lt_of_le hg HB.out.size
          have hr : l.getD ((i : Nat) : Int).toNat 0 = l.getD i 0 := rfl
          rw [hr]
          generalize l.getD i 0 = x at *
          have h0i : (0 : Int) ≤ (i : Int) := by omega
          generalize hln : l.length = ln at *
          clear hl hr HB0 hln
          go_enter Tryz.func152, Tryz.ntmps152
          go_wp2_with fail
          refine (need_ok 23 _).mono ?_
          rintro e w1 ⟨rfl, rfl⟩
          go_wp2_with fail
          refine (need_ok 32 _).mono ?_
          rintro e w1 ⟨rfl, rfl⟩
          go_wp2_with fail
          go_ret
          exact ⟨rfl, HB.out⟩
        · rw [if_neg (by omega)]
          have d1 : decide (n2 < (l.length : Int)) = false := decide_eq_false h1
          have d0 : decide (0 ≤ n2) = true := decide_eq_true h0
          generalize hln : l.length = ln at *
          clear hl HB0 hln
          go_enter Tryz.func152, Tryz.ntmps152
          go_wp2_with fail
          refine (need_ok 23 _).mono ?_
          rintro e w1 ⟨rfl, rfl⟩
          go_wp2_with fail
          refine (need_bad 32 _).mono ?_
          rintro e w1 ⟨rfl, rfl⟩
          unfold panE
          go_wp2_with fail
          exact ⟨rfl, rfl, HB.out⟩
      · rw [if_neg (by omega)]
        have d0 : decide (0 ≤ n2) = false := decide_eq_false h0
        generalize hln : l.length = ln at *
        clear hl HB0 hln
        go_enter Tryz.func152, Tryz.ntmps152
        go_wp2_with fail
        refine (need_ok 23 _).mono ?_
        rintro e w1 ⟨rfl, rfl⟩
        go_wp2_with fail
        refine (need_bad 32 _).mono ?_
        rintro e w1 ⟨rfl, rfl⟩
        unfold panE
        go_wp2_with fail
        exact ⟨rfl, rfl, HB.out⟩
    · rw [if_neg (by omega)]
      have e1 : (k2 == 1) = false := by simpa using hk2
      generalize hln : l.length = ln at *
      clear hl HB0 hln
      go_enter Tryz.func152, Tryz.ntmps152
      go_wp2_with fail
      refine (need_bad 23 _).mono ?_
      rintro e w1 ⟨rfl, rfl⟩
      unfold panE
      go_wp2_with fail
      exact ⟨rfl, rfl, HB.out⟩
  · rw [if_neg (by omega)]
    have e5 : (k == 5) = false := by simpa using hk
    generalize hln : l.length = ln at *
    clear hl HB0 hln
    go_enter Tryz.func152, Tryz.ntmps152
    go_wp2_with fail
    refine (need_bad 23 _).mono ?_
    rintro e w1 ⟨rfl, rfl⟩
    unfold panE
    go_wp2_with fail
    exact ⟨rfl, rfl, HB.out⟩
end Go.Proofs.YtabbdkdpmpjchaaGreatDoor.Ev

namespace Go.Proofs.YtabbdkdpmpjchaaGreatDoor.Ev
open Ex Lx Va Ty
def B64 (n : Int) : Prop := -9223372036854775808 ≤ n ∧ n ≤ 9223372036854775807
structure Good (x : V) : Prop where
  right : rightB x = true
  num : B64 x.num
  nums : ∀ n ∈ x.list, B64 n
theorem good_zero : Good zeroV := ⟨by decide, by unfold B64; decide, fun n h => by cases h⟩
theorem good_int {n : Int} (h : B64 n) : Good (intV n) := ⟨by simp [rightB, intV], h, fun n h => by cases h⟩
theorem good_bool (b : Bool) : Good (boolV b) := by
  cases b
  · exact ⟨by decide, by unfold B64; decide, fun n h => by cases h⟩
  · exact ⟨by decide, by unfold B64; decide, fun n h => by cases h⟩
theorem good_num (n : Int) : Good (numE n).1 := by
  unfold numE
  split
  · rename_i h
    exact good_int (by simpa [fits64, B64] using h)
  · exact good_zero
theorem name_len {s : List UInt8} (h : nameB s = true) : s.length ≤ 24 := by
  cases s with
  | nil => simp
  | cons c r => simp [nameB] at h; simp; omega
theorem Good.text {x : V} (h : Good x) : x.text.length ≤ 64 := by
  have h1 := h.right
  by_cases h3 : x.kind = 3
  · simp [rightB, h3] at h1; omega
  by_cases h4 : x.kind = 4
  · have : nameB x.text = true := by
      simp [rightB, h4] at h1; exact h1.1.2
    have := name_len this
    omega
  · simp [rightB, h3, h4] at h1
    simp [h1.1.2]
theorem Good.list {x : V} (h : Good x) : x.list.length ≤ 16 := by
  have h1 := h.right
  by_cases h5 : x.kind = 5
  · simp [rightB, h5] at h1; omega
  · simp [rightB, h5] at h1
    simp [h1.2]
theorem Good.bool {x : V} (h : Good x) (hk : x.kind = 2) : x = boolV (x.num == 1) := by
  obtain ⟨k, n, t, l⟩ := x
  have h1 := h.right
  simp only at hk
  subst hk
  simp [rightB] at h1
  obtain ⟨⟨h2, h3⟩, h4⟩ := h1
  subst h3 h4
  rcases h2 with (h2 | h2) | h2 <;> (rw [h2]; rfl)
theorem namedV_good (l : List AttrP) (vs : List V) (n : List UInt8) (h : ∀ x ∈ vs, Good x) : Good (namedV l vs n).1 := by
  induction l generalizing vs with
  | nil => exact good_zero
  | cons a r ih =>
    unfold namedV
    by_cases ha : a.name = n
    · rw [if_pos ha]
      cases vs with
      | nil => exact good_zero
      | cons v s =>
        simp only
        split
        · exact good_zero
        · exact h v (by simp)
    · rw [if_neg ha]
      exact ih vs.tail fun x hx => h x (List.mem_of_mem_tail hx)
theorem seqE_good (l : List (V × Nat)) (h : ∀ x ∈ l, Good x.1) : ∀ x ∈ (seqE l).1, Good x := by
  induction l with
  | nil => intro x hx; cases hx
  | cons a r ih =>
    intro x hx
    unfold seqE at hx
    split at hx
    · split at hx
      · rcases List.mem_cons.1 hx with rfl | hx
        · exact h a (by simp)
        · exact ih (fun y hy => h y (by simp [hy])) x hx
      · cases hx
    · cases hx
theorem seqE_len : ∀ l : List (V × Nat), (seqE l).2 = 0 → (seqE l).1.length = l.length
  | [], _ => rfl
  | a :: r, h => by
    unfold seqE at h ⊢
    split at h
    · rename_i h1
      rw [if_pos h1]
      split at h
      · rename_i h2
        rw [if_pos h2]
        simp [seqE_len r h2]
      · rename_i h2; exact absurd h h2
    · rename_i h1; exact absurd h h1
theorem evL_len (v : En) : ∀ l : F, (evL v l).length = l.len
  | .nil => rfl
  | .cons o n t a r => by
    show (evL v r).length + 1 = r.len + 1
    rw [evL_len v r]
theorem argV_good {l : List V} (h : ∀ x ∈ l, Good x) (i : Nat) : Good (argV l i) := by
  unfold argV
  by_cases hi : i < l.length
  · rw [List.getD_eq_getElem?_getD, List.getElem?_eq_getElem hi]
    exact h _ (List.getElem_mem hi)
  · rw [List.getD_eq_getElem?_getD, List.getElem?_eq_none (by omega)]
    exact good_zero
theorem arith_good (o a b : Int) : Good (arithE o a b).1 := by
  unfold arithE
  repeat' split
  all_goals first | exact good_num _ | exact good_zero
theorem opE_good (o n : Int) (t : List UInt8) (l : List V) (hf : formedB o n t l.length = true) (hn : namedB o t = true) (hm : n ≤ 9223372036854775807) (h : ∀ x ∈ l, Good x) : Good (opE o n t l).1 := by
  have h0 : 0 ≤ n := by
    simp only [formedB, Bool.and_eq_true, decide_eq_true_eq] at hf; omega
  have z0 : B64 (zeroV).num := ⟨by decide, by decide⟩
  unfold opE
  by_cases h1 : o = 1
  · rw [if_pos h1]; exact good_int ⟨by omega, hm⟩
  rw [if_neg h1]
  by_cases h2 : o = 2
  · rw [if_pos h2]
    subst h2
    refine ⟨?_, z0, fun n h => by cases h⟩
    simp [formedB] at hf
    simp [rightB]; omega
  rw [if_neg h2]
  by_cases h3 : o = 3
  · rw [if_pos h3]
    subst h3
    have h1 : n = 0 ∨ n = 1 := by
      simp [formedB] at hf; omega
    refine ⟨?_, ⟨by show (-9223372036854775808 : Int) ≤ n; omega, hm⟩, fun n h => by cases h⟩
    rcases h1 with rfl | rfl <;> rfl
  rw [if_neg h3]
  by_cases h4 : o = 4
  · rw [if_pos h4]
    subst h4
    refine ⟨?_, z0, fun n h => by cases h⟩
    simp [namedB] at hn
    simp [rightB, hn]
  rw [if_neg h4]
  by_cases h5 : o = 5
  · rw [if_pos h5]
    subst h5
    by_cases ha : allV l 1 = true
    · rw [if_pos ha]
      refine ⟨?_, z0, fun n hn => ?_⟩
      · have : l.length ≤ 16 := by simp [formedB, cntB] at hf; omega
        simp [rightB]; omega
      · obtain ⟨x, hx, rfl⟩ := List.mem_map.1 hn
        exact (h x hx).num
    · rw [if_neg ha]; exact good_zero
  rw [if_neg h5]
  by_cases h10 : o = 10
  · rw [if_pos h10]
    by_cases ha : allV l 2 = true
    · rw [if_pos ha]; exact good_bool _
    · rw [if_neg ha]; exact good_zero
  rw [if_neg h10]
  by_cases h12 : o = 12
  · rw [if_pos h12]
    by_cases ha : (argV l 0).kind = 5
    · rw [if_pos ha]
      have := (argV_good h 0).list
      exact good_int ⟨by omega, by omega⟩
    · rw [if_neg ha]
      by_cases hb : (argV l 0).kind = 3
      · rw [if_pos hb]
        have := (argV_good h 0).text
        exact good_int ⟨by omega, by omega⟩
      · rw [if_neg hb]; exact good_zero
  rw [if_neg h12]
  by_cases h25 : o = 25
  · rw [if_pos h25]
    by_cases ha : (argV l 0).kind = 5 ∧ (argV l 1).kind = 1
    · rw [if_pos ha]
      by_cases hb : 0 ≤ (argV l 1).num ∧ (argV l 1).num < (argV l 0).list.length
      · rw [if_pos hb]
        refine good_int ?_
        have hi : (argV l 1).num.toNat < (argV l 0).list.length := by omega
        rw [List.getD_eq_getElem?_getD, List.getElem?_eq_getElem hi]
        exact (argV_good h 0).nums _ (List.getElem_mem hi)
      · rw [if_neg hb]; exact good_zero
    · rw [if_neg ha]; exact good_zero
  rw [if_neg h25]
  by_cases h26 : o = 26
  · rw [if_pos h26]
    by_cases ha : (argV l 0).kind = 5 ∧ (argV l 1).kind = 1
    · rw [if_pos ha]
      by_cases hl : (argV l 0).list.length < 16
      · rw [if_pos hl]
        refine ⟨?_, z0, fun n hn => ?_⟩
        · simp [rightB]; omega
        · rcases List.mem_append.1 hn with hn | hn
          · exact (argV_good h 0).nums n hn
          · rw [List.mem_singleton.1 hn]; exact (argV_good h 1).num
      · rw [if_neg hl]; exact good_zero
    · rw [if_neg ha]; exact good_zero
  rw [if_neg h26]
  by_cases h30 : o = 30 ∨ o = 31
  · rw [if_pos h30]
    by_cases ha : (argV l 0).kind = (argV l 1).kind
    · rw [if_pos ha]; exact good_bool _
    · rw [if_neg ha]; exact good_zero
  rw [if_neg h30]
  by_cases h32 : o = 32 ∨ o = 33
  · rw [if_pos h32]
    by_cases ha : allV l 1 = true ∨ allV l 3 = true
    · rw [if_pos ha]; exact good_bool _
    · rw [if_neg ha]; exact good_zero
  rw [if_neg h32]
  by_cases ha : allV l 1 = false
  · rw [if_pos ha]; exact good_zero
  rw [if_neg ha]
  by_cases h11 : o = 11
  · rw [if_pos h11]; exact good_num _
  · rw [if_neg h11]; exact arith_good _ _ _
theorem juncE_good (o : Int) (l : List (V × Nat)) (h : ∀ x ∈ l, Good x.1) : Good (juncE o l).1 := by
  unfold juncE
  split
  · rename_i x y r
    have hx := h x (by simp)
    have hy := h y (by simp)
    repeat' split
    all_goals first | exact good_zero | exact hx | exact hy
  · exact good_zero
def okE : F → Prop
  | .nil => True
  | .cons o n t a r => formedB o n t a.len = true ∧ namedB o t = true ∧ n ≤ 9223372036854775807 ∧ okE a ∧ okE r
theorem ev_good (v : En) (hv : ∀ x ∈ v.vals, Good x) (hf : ∀ x ∈ v.fields, Good x) : ∀ l : F, okE l → ∀ x ∈ evL v l, Good x.1
  | .nil, _ => fun x hx => by cases hx
  | .cons o n t a r, h => fun x hx => by
    have ia := ev_good v hv hf a h.2.2.2.1
    have ir := ev_good v hv hf r h.2.2.2.2
    rcases List.mem_cons.1 (show x ∈ nodeE v o n t (evL v a) :: evL v r from hx) with rfl | hx
    · unfold nodeE
      split
      · exact namedV_good _ _ _ hv
      split
      · exact namedV_good _ _ _ hf
      split
      · exact juncE_good _ _ ia
      split
      · rename_i hs
        exact opE_good _ _ _ _ (by rw [seqE_len _ hs, evL_len]; exact h.1) h.2.1 h.2.2.1 (seqE_good _ ia)
      · exact good_zero
    · exact ir x hx
theorem junc_prog (o : Int) (x y : V × Nat) (hx : Good x.1) (hy : Good y.1) (ho : o = 40 ∨ o = 41) : juncE o [x, y] =
    (if x.2 ≠ 0 then (zeroV, x.2) else if x.1.kind ≠ 2 then (zeroV, 23) else if (x.1.num == 1) = (o == 41) then (boolV (x.1.num == 1), 0)
    else if y.2 ≠ 0 then (zeroV, y.2) else if y.1.kind ≠ 2 then (zeroV, 23) else (boolV (y.1.num == 1), 0)) := by
  unfold juncE
  simp only
  by_cases h1 : x.2 ≠ 0
  · rw [if_pos h1, if_pos h1]
  rw [if_neg h1, if_neg h1]
  by_cases h2 : x.1.kind ≠ 2
  · rw [if_pos h2, if_pos h2]
  rw [if_neg h2, if_neg h2]
  have hb := hx.bool (by simpa using h2)
  have hn : x.1.num = 0 ∨ x.1.num = 1 := by
    rw [hb]; unfold boolV; simp only; split <;> simp
  have e : (x.1.num = (if o = 41 then 1 else 0)) ↔ (x.1.num == 1) = (o == 41) := by
    rcases ho with rfl | rfl <;> rcases hn with hn | hn <;> rw [hn] <;> decide
  by_cases h3 : (x.1.num == 1) = (o == 41)
  · rw [if_pos (e.2 h3), if_pos h3, ← hb]
  rw [if_neg (fun h => h3 (e.1 h)), if_neg h3]
  by_cases h4 : y.2 ≠ 0
  · rw [if_pos h4, if_pos h4]
  rw [if_neg h4, if_neg h4]
  by_cases h5 : y.1.kind ≠ 2
  · rw [if_pos h5, if_pos h5]
  rw [if_neg h5, if_neg h5, ← hy.bool (by simpa using h5)]
end Go.Proofs.YtabbdkdpmpjchaaGreatDoor.Ev
