/-
  The document's expressions: how many operands an operator has; what may be wrong with a node.
-/
import Derived.Test.YtdgeofmnoabilaaGreatDoorZExChk
import Derived.Deep.DeepCutAuto
namespace Go.Proofs.YtdgeofmnoabilaaGreatDoor.Ex
open Go.RowKit
open Lx

/-- How many Args an operator has; -1: any up to 16; -2: it is none. -/
def cN (o : Int) : Int := if o = 5 then -1 else if 1 ≤ o ∧ o ≤ 7 then 0 else if 10 ≤ o ∧ o ≤ 12 then 1 else if 20 ≤ o ∧ o ≤ 26 ∨ 30 ≤ o ∧ o ≤ 33 ∨ o = 40 ∨ o = 41 then 2 else -2
def badA (o : Int) (k : Nat) : Bool := decide (cN o = -2 ∨ (0 ≤ cN o ∧ (k : Int) ≠ cN o) ∨ 16 < k)
def badN (o n : Int) : Bool := decide ((n ≠ 0 ∧ o ≠ 1 ∧ o ≠ 3) ∨ n < 0 ∨ (o = 3 ∧ 1 < n))
def badT (o : Int) (t : List UInt8) : Bool := decide ((t ≠ [] ∧ o ≠ 2 ∧ o ≠ 4 ∧ o ≠ 6 ∧ o ≠ 7) ∨ (o = 2 ∧ 64 < t.length))
def badM (o : Int) (t : List UInt8) : Bool := decide (((o = 4 ∨ o = 6 ∨ o = 7) ∧ Va.nameB t = false) ∨ (o = 6 ∧ takenB t = true))
set_option linter.unusedSimpArgs false
theorem formed_bad (o n : Int) (t : List UInt8) (k : Nat) : formedB o n t k = !(badA o k || badN o n || badT o t) := by
  have e1 : cntB o k = !badA o k := by
    unfold cntB badA cN
    by_cases h5 : o = 5
    · simp only [if_pos h5]
      rw [Bool.eq_iff_iff]
      simp
    by_cases h7 : 1 ≤ o ∧ o ≤ 7
    · simp only [if_neg h5, if_pos h7]
      by_cases hk : k = 0
      · simp [hk]
      · have : (k == 0) = false := by simpa using hk
        rw [this]; symm; simp; omega
    by_cases h12 : 10 ≤ o ∧ o ≤ 12
    · simp only [if_neg h5, if_neg h7, if_pos h12]
      by_cases hk : k = 1
      · simp [hk]
      · have : (k == 1) = false := by simpa using hk
        rw [this]; symm; simp; omega
    by_cases h20 : 20 ≤ o ∧ o ≤ 26 ∨ 30 ≤ o ∧ o ≤ 33 ∨ o = 40 ∨ o = 41
    · simp only [if_neg h5, if_neg h7, if_neg h12, if_pos h20]
      by_cases hk : k = 2
      · simp [hk]
      · have : (k == 2) = false := by simpa using hk
        rw [this]; symm; simp; omega
    · simp only [if_neg h5, if_neg h7, if_neg h12, if_neg h20]
      simp
  unfold formedB
  rw [e1]
  unfold badN badT
  cases badA o k with
  | true => simp
  | false =>
    simp only [Bool.not_false, Bool.true_and, Bool.false_or]
    cases t with
    | nil =>
      rw [Bool.eq_iff_iff]
      simp
      omega
    | cons c r =>
      rw [Bool.eq_iff_iff]
      simp
      omega
theorem named_bad (o : Int) (t : List UInt8) : namedB o t = !badM o t := by
  unfold namedB badM
  by_cases h4 : o = 4
  · subst h4; cases h : Va.nameB t <;> simp [h]
  by_cases h6 : o = 6
  · subst h6; cases h : Va.nameB t <;> cases h' : takenB t <;> simp [h, h']
  by_cases h7 : o = 7
  · subst h7; cases h : Va.nameB t <;> simp [h]
  simp [h4, h6, h7]

set_option linter.unusedVariables false
set_option maxHeartbeats 2000000 in
theorem rcount_any (o : Int) (w : World) : Calls Tryz.prog 31 #[.int .i64 o] w fun e w' => e = .returned (.int .i64 (cN o)) ∧ w = w' := by
  go_enter Tryz.func31, Tryz.ntmps31
  go_wp2_with fail
  all_goals (go_ret; refine ⟨congrArg (fun x => Ending.returned (Value.int .i64 x)) ?_, rfl⟩; unfold cN)
  all_goals (try simp only [beq_iff_eq, beq_eq_false_iff_ne, ne_eq] at *)
  all_goals (repeat' split)
  all_goals (first | rfl | omega)

end Go.Proofs.YtdgeofmnoabilaaGreatDoor.Ex
