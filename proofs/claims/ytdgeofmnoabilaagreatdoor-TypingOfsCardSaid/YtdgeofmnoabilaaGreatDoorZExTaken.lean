/-
  Which names are taken: the program's answer, and the document's.
-/
import Derived.Test.YtdgeofmnoabilaaGreatDoorZTzC
import Derived.Test.YtdgeofmnoabilaaGreatDoorZTzA
namespace Go.Proofs.YtdgeofmnoabilaaGreatDoor.Ex
open Go.RowKit
open Lx


set_option linter.unusedVariables false in
set_option maxRecDepth 100000 in
theorem taken_true (w : World) : Calls Tryz.prog 101 #[.string (S [116, 114, 117, 101])] w fun e w' => e = .returned (.bool true) ∧ w = w' := by
  have q_true : ((S [116, 114, 117, 101]).toList == ([116, 114, 117, 101] : List UInt8)) = true := by rw [eqB]; rfl
  have q_false : ((S [116, 114, 117, 101]).toList == ([102, 97, 108, 115, 101] : List UInt8)) = false := by rw [eqB]; rfl
  have q_msg : ((S [116, 114, 117, 101]).toList == ([109, 115, 103] : List UInt8)) = false := by rw [eqB]; rfl
  have q_len : ((S [116, 114, 117, 101]).toList == ([108, 101, 110] : List UInt8)) = false := by rw [eqB]; rfl
  have q_at : ((S [116, 114, 117, 101]).toList == ([97, 116] : List UInt8)) = false := by rw [eqB]; rfl
  have q_push : ((S [116, 114, 117, 101]).toList == ([112, 117, 115, 104] : List UInt8)) = false := by rw [eqB]; rfl
  go_enter Tryz.func101, Tryz.ntmps101
  go_wp2_with fail
  go_ret
  exact ⟨rfl, rfl⟩

set_option linter.unusedVariables false in
set_option maxRecDepth 100000 in
theorem taken_false (w : World) : Calls Tryz.prog 101 #[.string (S [102, 97, 108, 115, 101])] w fun e w' => e = .returned (.bool true) ∧ w = w' := by
  have q_true : ((S [102, 97, 108, 115, 101]).toList == ([116, 114, 117, 101] : List UInt8)) = false := by rw [eqB]; rfl
  have q_false : ((S [102, 97, 108, 115, 101]).toList == ([102, 97, 108, 115, 101] : List UInt8)) = true := by rw [eqB]; rfl
  have q_msg : ((S [102, 97, 108, 115, 101]).toList == ([109, 115, 103] : List UInt8)) = false := by rw [eqB]; rfl
  have q_len : ((S [102, 97, 108, 115, 101]).toList == ([108, 101, 110] : List UInt8)) = false := by rw [eqB]; rfl
  have q_at : ((S [102, 97, 108, 115, 101]).toList == ([97, 116] : List UInt8)) = false := by rw [eqB]; rfl
  have q_push : ((S [102, 97, 108, 115, 101]).toList == ([112, 117, 115, 104] : List UInt8)) = false := by rw [eqB]; rfl
  go_enter Tryz.func101, Tryz.ntmps101
  go_wp2_with fail
  go_ret
  exact ⟨rfl, rfl⟩

set_option linter.unusedVariables false in
set_option maxRecDepth 100000 in
theorem taken_msg (w : World) : Calls Tryz.prog 101 #[.string (S [109, 115, 103])] w fun e w' => e = .returned (.bool true) ∧ w = w' := by
  have q_true : ((S [109, 115, 103]).toList == ([116, 114, 117, 101] : List UInt8)) = false := by rw [eqB]; rfl
  have q_false : ((S [109, 115, 103]).toList == ([102, 97, 108, 115, 101] : List UInt8)) = false := by rw [eqB]; rfl
  have q_msg : ((S [109, 115, 103]).toList == ([109, 115, 103] : List UInt8)) = true := by rw [eqB]; rfl
  have q_len : ((S [109, 115, 103]).toList == ([108, 101, 110] : List UInt8)) = false := by rw [eqB]; rfl
  have q_at : ((S [109, 115, 103]).toList == ([97, 116] : List UInt8)) = false := by rw [eqB]; rfl
  have q_push : ((S [109, 115, 103]).toList == ([112, 117, 115, 104] : List UInt8)) = false := by rw [eqB]; rfl
  go_enter Tryz.func101, Tryz.ntmps101
  go_wp2_with fail
  go_ret
  exact ⟨rfl, rfl⟩

set_option linter.unusedVariables false in
set_option maxRecDepth 100000 in
theorem taken_len (w : World) : Calls Tryz.prog 101 #[.string (S [108, 101, 110])] w fun e w' => e = .returned (.bool true) ∧ w = w' := by
  have q_true : ((S [108, 101, 110]).toList == ([116, 114, 117, 101] : List UInt8)) = false := by rw [eqB]; rfl
  have q_false : ((S [108, 101, 110]).toList == ([102, 97, 108, 115, 101] : List UInt8)) = false := by rw [eqB]; rfl
  have q_msg : ((S [108, 101, 110]).toList == ([109, 115, 103] : List UInt8)) = false := by rw [eqB]; rfl
  have q_len : ((S [108, 101, 110]).toList == ([108, 101, 110] : List UInt8)) = true := by rw [eqB]; rfl
  have q_at : ((S [108, 101, 110]).toList == ([97, 116] : List UInt8)) = false := by rw [eqB]; rfl
  have q_push : ((S [108, 101, 110]).toList == ([112, 117, 115, 104] : List UInt8)) = false := by rw [eqB]; rfl
  go_enter Tryz.func101, Tryz.ntmps101
  go_wp2_with fail
  go_ret
  exact ⟨rfl, rfl⟩

set_option linter.unusedVariables false in
set_option maxRecDepth 100000 in
theorem taken_at (w : World) : Calls Tryz.prog 101 #[.string (S [97, 116])] w fun e w' => e = .returned (.bool true) ∧ w = w' := by
  have q_true : ((S [97, 116]).toList == ([116, 114, 117, 101] : List UInt8)) = false := by rw [eqB]; rfl
  have q_false : ((S [97, 116]).toList == ([102, 97, 108, 115, 101] : List UInt8)) = false := by rw [eqB]; rfl
  have q_msg : ((S [97, 116]).toList == ([109, 115, 103] : List UInt8)) = false := by rw [eqB]; rfl
  have q_len : ((S [97, 116]).toList == ([108, 101, 110] : List UInt8)) = false := by rw [eqB]; rfl
  have q_at : ((S [97, 116]).toList == ([97, 116] : List UInt8)) = true := by rw [eqB]; rfl
  have q_push : ((S [97, 116]).toList == ([112, 117, 115, 104] : List UInt8)) = false := by rw [eqB]; rfl
  go_enter Tryz.func101, Tryz.ntmps101
  go_wp2_with fail
  go_ret
  exact ⟨rfl, rfl⟩

set_option linter.unusedVariables false in
set_option maxRecDepth 100000 in
theorem taken_push (w : World) : Calls Tryz.prog 101 #[.string (S [112, 117, 115, 104])] w fun e w' => e = .returned (.bool true) ∧ w = w' := by
  have q_true : ((S [112, 117, 115, 104]).toList == ([116, 114, 117, 101] : List UInt8)) = false := by rw [eqB]; rfl
  have q_false : ((S [112, 117, 115, 104]).toList == ([102, 97, 108, 115, 101] : List UInt8)) = false := by rw [eqB]; rfl
  have q_msg : ((S [112, 117, 115, 104]).toList == ([109, 115, 103] : List UInt8)) = false := by rw [eqB]; rfl
  have q_len : ((S [112, 117, 115, 104]).toList == ([108, 101, 110] : List UInt8)) = false := by rw [eqB]; rfl
  have q_at : ((S [112, 117, 115, 104]).toList == ([97, 116] : List UInt8)) = false := by rw [eqB]; rfl
  have q_push : ((S [112, 117, 115, 104]).toList == ([112, 117, 115, 104] : List UInt8)) = true := by rw [eqB]; rfl
  go_enter Tryz.func101, Tryz.ntmps101
  go_wp2_with fail
  go_ret
  exact ⟨rfl, rfl⟩

set_option maxRecDepth 100000 in
theorem taken_no (x : List UInt8) (n_true : x ≠ wTrue) (n_false : x ≠ wFalse) (n_msg : x ≠ wMsg) (n_len : x ≠ wLen) (n_at : x ≠ wAt) (n_push : x ≠ wPush) (w : World) : Calls Tryz.prog 101 #[.string (S x)] w fun e w' => e = .returned (.bool false) ∧ w = w' := by
  have q_true : ((S x).toList == ([116, 114, 117, 101] : List UInt8)) = false := by rw [eqB]; simpa using (show x ≠ [116, 114, 117, 101] from n_true)
  have q_false : ((S x).toList == ([102, 97, 108, 115, 101] : List UInt8)) = false := by rw [eqB]; simpa using (show x ≠ [102, 97, 108, 115, 101] from n_false)
  have q_msg : ((S x).toList == ([109, 115, 103] : List UInt8)) = false := by rw [eqB]; simpa using (show x ≠ [109, 115, 103] from n_msg)
  have q_len : ((S x).toList == ([108, 101, 110] : List UInt8)) = false := by rw [eqB]; simpa using (show x ≠ [108, 101, 110] from n_len)
  have q_at : ((S x).toList == ([97, 116] : List UInt8)) = false := by rw [eqB]; simpa using (show x ≠ [97, 116] from n_at)
  have q_push : ((S x).toList == ([112, 117, 115, 104] : List UInt8)) = false := by rw [eqB]; simpa using (show x ≠ [112, 117, 115, 104] from n_push)
  go_enter Tryz.func101, Tryz.ntmps101
  go_wp2_with fail
  go_ret
  exact ⟨rfl, rfl⟩

theorem taken_any (x : List UInt8) (w : World) : Calls Tryz.prog 101 #[.string (S x)] w fun e w' => e = .returned (.bool (takenB x)) ∧ w = w' := by
  by_cases n_true : x = wTrue
  · subst n_true
    exact taken_true w
  by_cases n_false : x = wFalse
  · subst n_false
    exact taken_false w
  by_cases n_msg : x = wMsg
  · subst n_msg
    exact taken_msg w
  by_cases n_len : x = wLen
  · subst n_len
    exact taken_len w
  by_cases n_at : x = wAt
  · subst n_at
    exact taken_at w
  by_cases n_push : x = wPush
  · subst n_push
    exact taken_push w
  have h : takenB x = false := by
    unfold takenB
    simp [n_true, n_false, n_msg, n_len, n_at, n_push]
  rw [h]
  exact taken_no x n_true n_false n_msg n_len n_at n_push w

set_option linter.unusedVariables false in
set_option maxRecDepth 100000 in
theorem refTaken_true (w : World) : Calls Tryz.prog 33 #[.string (S [116, 114, 117, 101])] w fun e w' => e = .returned (.bool true) ∧ w = w' := by
  have q_true : ((S [116, 114, 117, 101]).toList == ([116, 114, 117, 101] : List UInt8)) = true := by rw [eqB]; rfl
  have q_false : ((S [116, 114, 117, 101]).toList == ([102, 97, 108, 115, 101] : List UInt8)) = false := by rw [eqB]; rfl
  have q_msg : ((S [116, 114, 117, 101]).toList == ([109, 115, 103] : List UInt8)) = false := by rw [eqB]; rfl
  have q_len : ((S [116, 114, 117, 101]).toList == ([108, 101, 110] : List UInt8)) = false := by rw [eqB]; rfl
  have q_at : ((S [116, 114, 117, 101]).toList == ([97, 116] : List UInt8)) = false := by rw [eqB]; rfl
  have q_push : ((S [116, 114, 117, 101]).toList == ([112, 117, 115, 104] : List UInt8)) = false := by rw [eqB]; rfl
  go_enter Tryz.func33, Tryz.ntmps33
  go_wp2_with fail
  go_ret
  exact ⟨rfl, rfl⟩

set_option linter.unusedVariables false in
set_option maxRecDepth 100000 in
theorem refTaken_false (w : World) : Calls Tryz.prog 33 #[.string (S [102, 97, 108, 115, 101])] w fun e w' => e = .returned (.bool true) ∧ w = w' := by
  have q_true : ((S [102, 97, 108, 115, 101]).toList == ([116, 114, 117, 101] : List UInt8)) = false := by rw [eqB]; rfl
  have q_false : ((S [102, 97, 108, 115, 101]).toList == ([102, 97, 108, 115, 101] : List UInt8)) = true := by rw [eqB]; rfl
  have q_msg : ((S [102, 97, 108, 115, 101]).toList == ([109, 115, 103] : List UInt8)) = false := by rw [eqB]; rfl
  have q_len : ((S [102, 97, 108, 115, 101]).toList == ([108, 101, 110] : List UInt8)) = false := by rw [eqB]; rfl
  have q_at : ((S [102, 97, 108, 115, 101]).toList == ([97, 116] : List UInt8)) = false := by rw [eqB]; rfl
  have q_push : ((S [102, 97, 108, 115, 101]).toList == ([112, 117, 115, 104] : List UInt8)) = false := by rw [eqB]; rfl
  go_enter Tryz.func33, Tryz.ntmps33
  go_wp2_with fail
  go_ret
  exact ⟨rfl, rfl⟩

set_option linter.unusedVariables false in
set_option maxRecDepth 100000 in
theorem refTaken_msg (w : World) : Calls Tryz.prog 33 #[.string (S [109, 115, 103])] w fun e w' => e = .returned (.bool true) ∧ w = w' := by
  have q_true : ((S [109, 115, 103]).toList == ([116, 114, 117, 101] : List UInt8)) = false := by rw [eqB]; rfl
  have q_false : ((S [109, 115, 103]).toList == ([102, 97, 108, 115, 101] : List UInt8)) = false := by rw [eqB]; rfl
  have q_msg : ((S [109, 115, 103]).toList == ([109, 115, 103] : List UInt8)) = true := by rw [eqB]; rfl
  have q_len : ((S [109, 115, 103]).toList == ([108, 101, 110] : List UInt8)) = false := by rw [eqB]; rfl
  have q_at : ((S [109, 115, 103]).toList == ([97, 116] : List UInt8)) = false := by rw [eqB]; rfl
  have q_push : ((S [109, 115, 103]).toList == ([112, 117, 115, 104] : List UInt8)) = false := by rw [eqB]; rfl
  go_enter Tryz.func33, Tryz.ntmps33
  go_wp2_with fail
  go_ret
  exact ⟨rfl, rfl⟩

set_option linter.unusedVariables false in
set_option maxRecDepth 100000 in
theorem refTaken_len (w : World) : Calls Tryz.prog 33 #[.string (S [108, 101, 110])] w fun e w' => e = .returned (.bool true) ∧ w = w' := by
  have q_true : ((S [108, 101, 110]).toList == ([116, 114, 117, 101] : List UInt8)) = false := by rw [eqB]; rfl
  have q_false : ((S [108, 101, 110]).toList == ([102, 97, 108, 115, 101] : List UInt8)) = false := by rw [eqB]; rfl
  have q_msg : ((S [108, 101, 110]).toList == ([109, 115, 103] : List UInt8)) = false := by rw [eqB]; rfl
  have q_len : ((S [108, 101, 110]).toList == ([108, 101, 110] : List UInt8)) = true := by rw [eqB]; rfl
  have q_at : ((S [108, 101, 110]).toList == ([97, 116] : List UInt8)) = false := by rw [eqB]; rfl
  have q_push : ((S [108, 101, 110]).toList == ([112, 117, 115, 104] : List UInt8)) = false := by rw [eqB]; rfl
  go_enter Tryz.func33, Tryz.ntmps33
  go_wp2_with fail
  go_ret
  exact ⟨rfl, rfl⟩

set_option linter.unusedVariables false in
set_option maxRecDepth 100000 in
theorem refTaken_at (w : World) : Calls Tryz.prog 33 #[.string (S [97, 116])] w fun e w' => e = .returned (.bool true) ∧ w = w' := by
  have q_true : ((S [97, 116]).toList == ([116, 114, 117, 101] : List UInt8)) = false := by rw [eqB]; rfl
  have q_false : ((S [97, 116]).toList == ([102, 97, 108, 115, 101] : List UInt8)) = false := by rw [eqB]; rfl
  have q_msg : ((S [97, 116]).toList == ([109, 115, 103] : List UInt8)) = false := by rw [eqB]; rfl
  have q_len : ((S [97, 116]).toList == ([108, 101, 110] : List UInt8)) = false := by rw [eqB]; rfl
  have q_at : ((S [97, 116]).toList == ([97, 116] : List UInt8)) = true := by rw [eqB]; rfl
  have q_push : ((S [97, 116]).toList == ([112, 117, 115, 104] : List UInt8)) = false := by rw [eqB]; rfl
  go_enter Tryz.func33, Tryz.ntmps33
  go_wp2_with fail
  go_ret
  exact ⟨rfl, rfl⟩

set_option linter.unusedVariables false in
set_option maxRecDepth 100000 in
theorem refTaken_push (w : World) : Calls Tryz.prog 33 #[.string (S [112, 117, 115, 104])] w fun e w' => e = .returned (.bool true) ∧ w = w' := by
  have q_true : ((S [112, 117, 115, 104]).toList == ([116, 114, 117, 101] : List UInt8)) = false := by rw [eqB]; rfl
  have q_false : ((S [112, 117, 115, 104]).toList == ([102, 97, 108, 115, 101] : List UInt8)) = false := by rw [eqB]; rfl
  have q_msg : ((S [112, 117, 115, 104]).toList == ([109, 115, 103] : List UInt8)) = false := by rw [eqB]; rfl
  have q_len : ((S [112, 117, 115, 104]).toList == ([108, 101, 110] : List UInt8)) = false := by rw [eqB]; rfl
  have q_at : ((S [112, 117, 115, 104]).toList == ([97, 116] : List UInt8)) = false := by rw [eqB]; rfl
  have q_push : ((S [112, 117, 115, 104]).toList == ([112, 117, 115, 104] : List UInt8)) = true := by rw [eqB]; rfl
  go_enter Tryz.func33, Tryz.ntmps33
  go_wp2_with fail
  go_ret
  exact ⟨rfl, rfl⟩

set_option maxRecDepth 100000 in
theorem refTaken_no (x : List UInt8) (n_true : x ≠ wTrue) (n_false : x ≠ wFalse) (n_msg : x ≠ wMsg) (n_len : x ≠ wLen) (n_at : x ≠ wAt) (n_push : x ≠ wPush) (w : World) : Calls Tryz.prog 33 #[.string (S x)] w fun e w' => e = .returned (.bool false) ∧ w = w' := by
  have q_true : ((S x).toList == ([116, 114, 117, 101] : List UInt8)) = false := by rw [eqB]; simpa using (show x ≠ [116, 114, 117, 101] from n_true)
  have q_false : ((S x).toList == ([102, 97, 108, 115, 101] : List UInt8)) = false := by rw [eqB]; simpa using (show x ≠ [102, 97, 108, 115, 101] from n_false)
  have q_msg : ((S x).toList == ([109, 115, 103] : List UInt8)) = false := by rw [eqB]; simpa using (show x ≠ [109, 115, 103] from n_msg)
  have q_len : ((S x).toList == ([108, 101, 110] : List UInt8)) = false := by rw [eqB]; simpa using (show x ≠ [108, 101, 110] from n_len)
  have q_at : ((S x).toList == ([97, 116] : List UInt8)) = false := by rw [eqB]; simpa using (show x ≠ [97, 116] from n_at)
  have q_push : ((S x).toList == ([112, 117, 115, 104] : List UInt8)) = false := by rw [eqB]; simpa using (show x ≠ [112, 117, 115, 104] from n_push)
  go_enter Tryz.func33, Tryz.ntmps33
  go_wp2_with fail
  go_ret
  exact ⟨rfl, rfl⟩

theorem refTaken_any (x : List UInt8) (w : World) : Calls Tryz.prog 33 #[.string (S x)] w fun e w' => e = .returned (.bool (takenB x)) ∧ w = w' := by
  by_cases n_true : x = wTrue
  · subst n_true
    exact refTaken_true w
  by_cases n_false : x = wFalse
  · subst n_false
    exact refTaken_false w
  by_cases n_msg : x = wMsg
  · subst n_msg
    exact refTaken_msg w
  by_cases n_len : x = wLen
  · subst n_len
    exact refTaken_len w
  by_cases n_at : x = wAt
  · subst n_at
    exact refTaken_at w
  by_cases n_push : x = wPush
  · subst n_push
    exact refTaken_push w
  have h : takenB x = false := by
    unfold takenB
    simp [n_true, n_false, n_msg, n_len, n_at, n_push]
  rw [h]
  exact refTaken_no x n_true n_false n_msg n_len n_at n_push w

end Go.Proofs.YtdgeofmnoabilaaGreatDoor.Ex
