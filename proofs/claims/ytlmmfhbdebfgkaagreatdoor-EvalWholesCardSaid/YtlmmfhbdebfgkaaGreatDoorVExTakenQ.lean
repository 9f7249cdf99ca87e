/-
  ExTaken, VlName.
-/
import Derived.Test.YtlmmfhbdebfgkaaGreatDoorVExRefOp
import Derived.Test.YtlmmfhbdebfgkaaGreatDoorVVaPureQ
import Derived.Test.YtlmmfhbdebfgkaaGreatDoorVVaRightQ
import Derived.Laws.RangeAny
import Derived.Lib.OthersKept
set_option linter.unusedVariables false
set_option linter.unusedSimpArgs false
set_option maxRecDepth 100000
set_option maxHeartbeats 3200000
namespace Go.Proofs.YtlmmfhbdebfgkaaGreatDoor.Ex
open Go.RowKit
open Lx
theorem taken_true (w : World) : Calls Tryz.prog 20 #[.string (S [116, 114, 117, 101])] w fun e w' => e = .returned (.bool true) ∧ w = w' := by
  have q_true : ((S [116, 114, 117, 101]).toList == ([116, 114, 117, 101] : List UInt8)) = true := by rw [eqB]; rfl
  have q_false : ((S [116, 114, 117, 101]).toList == ([102, 97, 108, 115, 101] : List UInt8)) = false := by rw [eqB]; rfl
  have q_msg : ((S [116, 114, 117, 101]).toList == ([109, 115, 103] : List UInt8)) = false := by rw [eqB]; rfl
  have q_len : ((S [116, 114, 117, 101]).toList == ([108, 101, 110] : List UInt8)) = false := by rw [eqB]; rfl
  have q_at : ((S [116, 114, 117, 101]).toList == ([97, 116] : List UInt8)) = false := by rw [eqB]; rfl
  have q_push : ((S [116, 114, 117, 101]).toList == ([112, 117, 115, 104] : List UInt8)) = false := by rw [eqB]; rfl
  go_enter Tryz.func20, Tryz.ntmps20
  go_wp2_with fail
  go_ret
  exact ⟨rfl, rfl⟩
theorem taken_false (w : World) : Calls Tryz.prog 20 #[.string (S [102, 97, 108, 115, 101])] w fun e w' => e = .returned (.bool true) ∧ w = w' := by
  have q_true : ((S [102, 97, 108, 115, 101]).toList == ([116, 114, 117, 101] : List UInt8)) = false := by rw [eqB]; rfl
  have q_false : ((S [102, 97, 108, 115, 101]).toList == ([102, 97, 108, 115, 101] : List UInt8)) = true := by rw [eqB]; rfl
  have q_msg : ((S [102, 97, 108, 115, 101]).toList == ([109, 115, 103] : List UInt8)) = false := by rw [eqB]; rfl
  have q_len : ((S [102, 97, 108, 115, 101]).toList == ([108, 101, 110] : List UInt8)) = false := by rw [eqB]; rfl
  have q_at : ((S [102, 97, 108, 115, 101]).toList == ([97, 116] : List UInt8)) = false := by rw [eqB]; rfl
  have q_push : ((S [102, 97, 108, 115, 101]).toList == ([112, 117, 115, 104] : List UInt8)) = false := by rw [eqB]; rfl
  go_enter Tryz.func20, Tryz.ntmps20
  go_wp2_with fail
  go_ret
  exact ⟨rfl, rfl⟩
theorem taken_msg (w : World) : Calls Tryz.prog 20 #[.string (S [109, 115, 103])] w fun e w' => e = .returned (.bool true) ∧ w = w' := by
  have q_true : ((S [109, 115, 103]).toList == ([116, 114, 117, 101] : List UInt8)) = false := by rw [eqB]; rfl
  have q_false : ((S [109, 115, 103]).toList == ([102, 97, 108, 115, 101] : List UInt8)) = false := by rw [eqB]; rfl
  have q_msg : ((S [109, 115, 103]).toList == ([109, 115, 103] : List UInt8)) = true := by rw [eqB]; rfl
  have q_len : ((S [109, 115, 103]).toList == ([108, 101, 110] : List UInt8)) = false := by rw [eqB]; rfl
  have q_at : ((S [109, 115, 103]).toList == ([97, 116] : List UInt8)) = false := by rw [eqB]; rfl
  have q_push : ((S [109, 115, 103]).toList == ([112, 117, 115, 104] : List UInt8)) = false := by rw [eqB]; rfl
  go_enter Tryz.func20, Tryz.ntmps20
  go_wp2_with fail
  go_ret
  exact ⟨rfl, rfl⟩
theorem taken_len (w : World) : Calls Tryz.prog 20 #[.string (S [108, 101, 110])] w fun e w' => e = .returned (.bool true) ∧ w = w' := by
  have q_true : ((S [108, 101, 110]).toList == ([116, 114, 117, 101] : List UInt8)) = false := by rw [eqB]; rfl
  have q_false : ((S [108, 101, 110]).toList == ([102, 97, 108, 115, 101] : List UInt8)) = false := by rw [eqB]; rfl
  have q_msg : ((S [108, 101, 110]).toList == ([109, 115, 103] : List UInt8)) = false := by rw [eqB]; rfl
  have q_len : ((S [108, 101, 110]).toList == ([108, 101, 110] : List UInt8)) = true := by rw [eqB]; rfl
  have q_at : ((S [108, 101, 110]).toList == ([97, 116] : List UInt8)) = false := by rw [eqB]; rfl
  have q_push : ((S [108, 101, 110]).toList == ([112, 117, 115, 104] : List UInt8)) = false := by rw [eqB]; rfl
  go_enter Tryz.func20, Tryz.ntmps20
  go_wp2_with fail
  go_ret
  exact ⟨rfl, rfl⟩
theorem taken_at (w : World) : Calls Tryz.prog 20 #[.string (S [97, 116])] w fun e w' => e = .returned (.bool true) ∧ w = w' := by
  have q_true : ((S [97, 116]).toList == ([116, 114, 117, 101] : List UInt8)) = false := by rw [eqB]; rfl
  have q_false : ((S [97, 116]).toList == ([102, 97, 108, 115, 101] : List UInt8)) = false := by rw [eqB]; rfl
  have q_msg : ((S [97, 116]).toList == ([109, 115, 103] : List UInt8)) = false := by rw [eqB]; rfl
  have q_len : ((S [97, 116]).toList == ([108, 101, 110] : List UInt8)) = false := by rw [eqB]; rfl
  have q_at : ((S [97, 116]).toList == ([97, 116] : List UInt8)) = true := by rw [eqB]; rfl
  have q_push : ((S [97, 116]).toList == ([112, 117, 115, 104] : List UInt8)) = false := by rw [eqB]; rfl
  go_enter Tryz.func20, Tryz.ntmps20
  go_wp2_with fail
  go_ret
  exact ⟨rfl, rfl⟩
theorem taken_push (w : World) : Calls Tryz.prog 20 #[.string (S [112, 117, 115, 104])] w fun e w' => e = .returned (.bool true) ∧ w = w' := by
  have q_true : ((S [112, 117, 115, 104]).toList == ([116, 114, 117, 101] : List UInt8)) = false := by rw [eqB]; rfl
  have q_false : ((S [112, 117, 115, 104]).toList == ([102, 97, 108, 115, 101] : List UInt8)) = false := by rw [eqB]; rfl
  have q_msg : ((S [112, 117, 115, 104]).toList == ([109, 115, 103] : List UInt8)) = false := by rw [eqB]; rfl
  have q_len : ((S [112, 117, 115, 104]).toList == ([108, 101, 110] : List UInt8)) = false := by rw [eqB]; rfl
  have q_at : ((S [112, 117, 115, 104]).toList == ([97, 116] : List UInt8)) = false := by rw [eqB]; rfl
  have q_push : ((S [112, 117, 115, 104]).toList == ([112, 117, 115, 104] : List UInt8)) = true := by rw [eqB]; rfl
  go_enter Tryz.func20, Tryz.ntmps20
  go_wp2_with fail
  go_ret
  exact ⟨rfl, rfl⟩
theorem taken_no (x : List UInt8) (n_true : x ≠ wTrue) (n_false : x ≠ wFalse) (n_msg : x ≠ wMsg) (n_len : x ≠ wLen) (n_at : x ≠ wAt) (n_push : x ≠ wPush) (w : World) : Calls Tryz.prog 20 #[.string (S x)] w fun e w' => e = .returned (.bool false) ∧ w = w' := by
  have q_true : ((S x).toList == ([116, 114, 117, 101] : List UInt8)) = false := by rw [eqB]; simpa using (show x ≠ [116, 114, 117, 101] from n_true)
  have q_false : ((S x).toList == ([102, 97, 108, 115, 101] : List UInt8)) = false := by rw [eqB]; simpa using (show x ≠ [102, 97, 108, 115, 101] from n_false)
  have q_msg : ((S x).toList == ([109, 115, 103] : List UInt8)) = false := by rw [eqB]; simpa using (show x ≠ [109, 115, 103] from n_msg)
  have q_len : ((S x).toList == ([108, 101, 110] : List UInt8)) = false := by rw [eqB]; simpa using (show x ≠ [108, 101, 110] from n_len)
  have q_at : ((S x).toList == ([97, 116] : List UInt8)) = false := by rw [eqB]; simpa using (show x ≠ [97, 116] from n_at)
  have q_push : ((S x).toList == ([112, 117, 115, 104] : List UInt8)) = false := by rw [eqB]; simpa using (show x ≠ [112, 117, 115, 104] from n_push)
  go_enter Tryz.func20, Tryz.ntmps20
  go_wp2_with fail
  go_ret
  exact ⟨rfl, rfl⟩
theorem taken_any (x : List UInt8) (w : World) : Calls Tryz.prog 20 #[.string (S x)] w fun e w' => e = .returned (.bool (takenB x)) ∧ w = w' := by
  by_cases n_true : x = wTrue
  · subst n_true
    exact taken_true w
  by_cases n_false : x = wFalse
  · subst n_false
    exact taken_false w
  by_cases n_msg : x = wMsg
  · subst n_msg
    exact taken_msg w
  by_cases n_len : x = wLen
  · subst n_len
    exact taken_len w
  by_cases n_at : x = wAt
  · subst n_at
    exact taken_at w
  by_cases n_push : x = wPush
  · subst n_push
    exact taken_push w
  have h : takenB x = false := by
    unfold takenB
    simp [n_true, n_false, n_msg, n_len, n_at, n_push]
  rw [h]
  exact taken_no x n_true n_false n_msg n_len n_at n_push w
theorem refTaken_true (w : World) : Calls Tryz.prog 99 #[.string (S [116, 114, 117, 101])] w fun e w' => e = .returned (.bool true) ∧ w = w' := by
  have q_true : ((S [116, 114, 117, 101]).toList == ([116, 114, 117, 101] : List UInt8)) = true := by rw [eqB]; rfl
  have q_false : ((S [116, 114, 117, 101]).toList == ([102, 97, 108, 115, 101] : List UInt8)) = false := by rw [eqB]; rfl
  have q_msg : ((S [116, 114, 117, 101]).toList == ([109, 115, 103] : List UInt8)) = false := by rw [eqB]; rfl
  have q_len : ((S [116, 114, 117, 101]).toList == ([108, 101, 110] : List UInt8)) = false := by rw [eqB]; rfl
  have q_at : ((S [116, 114, 117, 101]).toList == ([97, 116] : List UInt8)) = false := by rw [eqB]; rfl
  have q_push : ((S [116, 114, 117, 101]).toList == ([112, 117, 115, 104] : List UInt8)) = false := by rw [eqB]; rfl
  go_enter Tryz.func99, Tryz.ntmps99
  go_wp2_with fail
  go_ret
  exact ⟨rfl, rfl⟩
theorem refTaken_false (w : World) : Calls Tryz.prog 99 #[.string (S [102, 97, 108, 115, 101])] w fun e w' => e = .returned (.bool true) ∧ w = w' := by
  have q_true : ((S [102, 97, 108, 115, 101]).toList == ([116, 114, 117, 101] : List UInt8)) = false := by rw [eqB]; rfl
  have q_false : ((S [102, 97, 108, 115, 101]).toList == ([102, 97, 108, 115, 101] : List UInt8)) = true := by rw [eqB]; rfl
  have q_msg : ((S [102, 97, 108, 115, 101]).toList == ([109, 115, 103] : List UInt8)) = false := by rw [eqB]; rfl
  have q_len : ((S [102, 97, 108, 115, 101]).toList == ([108, 101, 110] : List UInt8)) = false := by rw [eqB]; rfl
  have q_at : ((S [102, 97, 108, 115, 101]).toList == ([97, 116] : List UInt8)) = false := by rw [eqB]; rfl
  have q_push : ((S [102, 97, 108, 115, 101]).toList == ([112, 117, 115, 104] : List UInt8)) = false := by rw [eqB]; rfl
  go_enter Tryz.func99, Tryz.ntmps99
  go_wp2_with fail
  go_ret
  exact ⟨rfl, rfl⟩
theorem refTaken_msg (w : World) : Calls Tryz.prog 99 #[.string (S [109, 115, 103])] w fun e w' => e = .returned (.bool true) ∧ w = w' := by
  have q_true : ((S [109, 115, 103]).toList == ([116, 114, 117, 101] : List UInt8)) = false := by rw [eqB]; rfl
  have q_false : ((S [109, 115, 103]).toList == ([102, 97, 108, 115, 101] : List UInt8)) = false := by rw [eqB]; rfl
  have q_msg : ((S [109, 115, 103]).toList == ([109, 115, 103] : List UInt8)) = true := by rw [eqB]; rfl
  have q_len : ((S [109, 115, 103]).toList == ([108, 101, 110] : List UInt8)) = false := by rw [eqB]; rfl
  have q_at : ((S [109, 115, 103]).toList == ([97, 116] : List UInt8)) = false := by rw [eqB]; rfl
  have q_push : ((S [109, 115, 103]).toList == ([112, 117, 115, 104] : List UInt8)) = false := by rw [eqB]; rfl
  go_enter Tryz.func99, Tryz.ntmps99
  go_wp2_with fail
  go_ret
  exact ⟨rfl, rfl⟩
theorem refTaken_len (w : World) : Calls Tryz.prog 99 #[.string (S [108, 101, 110])] w fun e w' => e = .returned (.bool true) ∧ w = w' := by
  have q_true : ((S [108, 101, 110]).toList == ([116, 114, 117, 101] : List UInt8)) = false := by rw [eqB]; rfl
  have q_false : ((S [108, 101, 110]).toList == ([102, 97, 108, 115, 101] : List UInt8)) = false := by rw [eqB]; rfl
  have q_msg : ((S [108, 101, 110]).toList == ([109, 115, 103] : List UInt8)) = false := by rw [eqB]; rfl
  have q_len : ((S [108, 101, 110]).toList == ([108, 101, 110] : List UInt8)) = true := by rw [eqB]; rfl
  have q_at : ((S [108, 101, 110]).toList == ([97, 116] : List UInt8)) = false := by rw [eqB]; rfl
  have q_push : ((S [108, 101, 110]).toList == ([112, 117, 115, 104] : List UInt8)) = false := by rw [eqB]; rfl
  go_enter Tryz.func99, Tryz.ntmps99
  go_wp2_with fail
  go_ret
  exact ⟨rfl, rfl⟩
theorem refTaken_at (w : World) : Calls Tryz.prog 99 #[.string (S [97, 116])] w fun e w' => e = .returned (.bool true) ∧ w = w' := by
  have q_true : ((S [97, 116]).toList == ([116, 114, 117, 101] : List UInt8)) = false := by rw [eqB]; rfl
  have q_false : ((S [97, 116]).toList == ([102, 97, 108, 115, 101] : List UInt8)) = false := by rw [eqB]; rfl
  have q_msg : ((S [97, 116]).toList == ([109, 115, 103] : List UInt8)) = false := by rw [eqB]; rfl
  have q_len : ((S [97, 116]).toList == ([108, 101, 110] : List UInt8)) = false := by rw [eqB]; rfl
  have q_at : ((S [97, 116]).toList == ([97, 116] : List UInt8)) = true := by rw [eqB]; rfl
  have q_push : ((S [97, 116]).toList == ([112, 117, 115, 104] : List UInt8)) = false := by rw [eqB]; rfl
  go_enter Tryz.func99, Tryz.ntmps99
  go_wp2_with fail
  go_ret
  exact ⟨rfl, rfl⟩
theorem refTaken_push (w : World) : Calls Tryz.prog 99 #[.string (S [112, 117, 115, 104])] w fun e w' => e = .returned (.bool true) ∧ w = w' := by
  have q_true : ((S [112, 117, 115, 104]).toList == ([116, 114, 117, 101] : List UInt8)) = false := by rw [eqB]; rfl
  have q_false : ((S [112, 117, 115, 104]).toList == ([102, 97, 108, 115, 101] : List UInt8)) = false := by rw [eqB]; rfl
  have q_msg : ((S [112, 117, 115, 104]).toList == ([109, 115, 103] : List UInt8)) = false := by rw [eqB]; rfl
  have q_len : ((S [112, 117, 115, 104]).toList == ([108, 101, 110] : List UInt8)) = false := by rw [eqB]; rfl
  have q_at : ((S [112, 117, 115, 104]).toList == ([97, 116] : List UInt8)) = false := by rw [eqB]; rfl
  have q_push : ((S [112, 117, 115, 104]).toList == ([112, 117, 115, 104] : List UInt8)) = true := by rw [eqB]; rfl
  go_enter Tryz.func99, Tryz.ntmps99
  go_wp2_with fail
  go_ret
  exact ⟨rfl, rfl⟩
theorem refTaken_no (x : List UInt8) (n_true : x ≠ wTrue) (n_false : x ≠ wFalse) (n_msg : x ≠ wMsg) (n_len : x ≠ wLen) (n_at : x ≠ wAt) (n_push : x ≠ wPush) (w : World) : Calls Tryz.prog 99 #[.string (S x)] w fun e w' => e = .returned (.bool false) ∧ w = w' := by
  have q_true : ((S x).toList == ([116, 114, 117, 101] : List UInt8)) = false := by rw [eqB]; simpa using (show x ≠ [116, 114, 117, 101] from n_true)
  have q_false : ((S x).toList == ([102, 97, 108, 115, 101] : List UInt8)) = false := by rw [eqB]; simpa using (show x ≠ [102, 97, 108, 115, 101] from n_false)
  have q_msg : ((S x).toList == ([109, 115, 103] : List UInt8)) = false := by rw [eqB]; simpa using (show x ≠ [109, 115, 103] from n_msg)
  have q_len : ((S x).toList == ([108, 101, 110] : List UInt8)) = false := by rw [eqB]; simpa using (show x ≠ [108, 101, 110] from n_len)
  have q_at : ((S x).toList == ([97, 116] : List UInt8)) = false := by rw [eqB]; simpa using (show x ≠ [97, 116] from n_at)
  have q_push : ((S x).toList == ([112, 117, 115, 104] : List UInt8)) = false := by rw [eqB]; simpa using (show x ≠ [112, 117, 115, 104] from n_push)
  go_enter Tryz.func99, Tryz.ntmps99
  go_wp2_with fail
  go_ret
  exact ⟨rfl, rfl⟩
theorem refTaken_any (x : List UInt8) (w : World) : Calls Tryz.prog 99 #[.string (S x)] w fun e w' => e = .returned (.bool (takenB x)) ∧ w = w' := by
  by_cases n_true : x = wTrue
  · subst n_true
    exact refTaken_true w
  by_cases n_false : x = wFalse
  · subst n_false
    exact refTaken_false w
  by_cases n_msg : x = wMsg
  · subst n_msg
    exact refTaken_msg w
  by_cases n_len : x = wLen
  · subst n_len
    exact refTaken_len w
  by_cases n_at : x = wAt
  · subst n_at
    exact refTaken_at w
  by_cases n_push : x = wPush
  · subst n_push
    exact refTaken_push w
  have h : takenB x = false := by
    unfold takenB
    simp [n_true, n_false, n_msg, n_len, n_at, n_push]
  rw [h]
  exact refTaken_no x n_true n_false n_msg n_len n_at n_push w
end Go.Proofs.YtlmmfhbdebfgkaaGreatDoor.Ex
namespace Go.Proofs.YtlmmfhbdebfgkaaGreatDoor.Va
open Go.RowKit
def letR (c : Int) : Bool := (decide (65 ≤ c) && decide (c ≤ 90)) || (decide (97 ≤ c) && decide (c ≤ 122))
def digR (c : Int) : Bool := decide (48 ≤ c) && decide (c ≤ 57)
theorem letter_any (c : Int) (w : World) : Calls Tryz.prog 110 #[.int .i32 c] w fun e w' => e = .returned (.bool (letR c)) ∧ w = w' := by
  by_cases h1 : 65 ≤ c
  · by_cases h2 : c ≤ 90
    · have HR := Lib.hid (show true = letR c by unfold letR; simp [h1, h2])
      go_enter Tryz.func110, Tryz.ntmps110
      go_wp2_with fail
      go_ret
      exact ⟨ret_b HR.out, rfl⟩
    · by_cases h3 : 97 ≤ c
      · by_cases h4 : c ≤ 122
        · have HR := Lib.hid (show true = letR c by unfold letR; simp [h3, h4])
          go_enter Tryz.func110, Tryz.ntmps110
          go_wp2_with fail
          go_ret
          exact ⟨ret_b HR.out, rfl⟩
        · have HR := Lib.hid (show false = letR c by unfold letR; simp [h2, h4])
          go_enter Tryz.func110, Tryz.ntmps110
          go_wp2_with fail
          go_ret
          exact ⟨ret_b HR.out, rfl⟩
      · have HR := Lib.hid (show false = letR c by unfold letR; simp [h2, h3])
        go_enter Tryz.func110, Tryz.ntmps110
        go_wp2_with fail
        go_ret
        exact ⟨ret_b HR.out, rfl⟩
  · have h3 : ¬ 97 ≤ c := by omega
    have HR := Lib.hid (show false = letR c by unfold letR; simp [h1, h3])
    go_enter Tryz.func110, Tryz.ntmps110
    go_wp2_with fail
    go_ret
    exact ⟨ret_b HR.out, rfl⟩
theorem digit_any (c : Int) (w : World) : Calls Tryz.prog 111 #[.int .i32 c] w fun e w' => e = .returned (.bool (digR c)) ∧ w = w' := by
  by_cases h1 : 48 ≤ c
  · by_cases h2 : c ≤ 57
    · have HR := Lib.hid (show true = digR c by unfold digR; simp [h1, h2])
      go_enter Tryz.func111, Tryz.ntmps111
      go_wp2_with fail
      go_ret
      exact ⟨ret_b HR.out, rfl⟩
    · have HR := Lib.hid (show false = digR c by unfold digR; simp [h2])
      go_enter Tryz.func111, Tryz.ntmps111
      go_wp2_with fail
      go_ret
      exact ⟨ret_b HR.out, rfl⟩
  · have HR := Lib.hid (show false = digR c by unfold digR; simp [h1])
    go_enter Tryz.func111, Tryz.ntmps111
    go_wp2_with fail
    go_ret
    exact ⟨ret_b HR.out, rfl⟩
theorem letR_byte (c : UInt8) : letR (c.toNat : Int) = letB c := by
  unfold letR letB
  rw [Bool.eq_iff_iff]
  simp [UInt8.le_iff_toNat_le]
  omega
theorem digR_byte (c : UInt8) : digR (c.toNat : Int) = digB c := by
  unfold digR digB
  rw [Bool.eq_iff_iff]
  simp [UInt8.le_iff_toNat_le]
  omega
theorem width_pos (s : ByteArray) (pos : Nat) (h : pos < s.size) : 1 ≤ (Utf8.decode s pos).2 := by
  by_cases ha : (s[pos]'h).toNat < 128
  · rw [decode_ascii s pos h ha]; simp
  · exact (decode_high s pos h (by omega)).2
def runeB (s : ByteArray) (pos : Nat) : Int := ((Utf8.decode s pos).1 : Int)
theorem rune_low (s : ByteArray) (pos : Nat) (h : pos < s.size) (ha : (s[pos]'h).toNat < 128) : runeB s pos = ((s[pos]'h).toNat : Int) ∧ (Utf8.decode s pos).2 = 1 := by
  unfold runeB
  rw [decode_ascii s pos h ha]
  exact ⟨rfl, rfl⟩
theorem rune_high (s : ByteArray) (pos : Nat) (h : pos < s.size) (ha : ¬ (s[pos]'h).toNat < 128) : 128 ≤ runeB s pos := by
  have := (decode_high s pos h (by omega)).1
  unfold runeB
  omega
theorem letB_high (c : UInt8) (h : ¬ c.toNat < 128) : letB c = false ∧ digB c = false ∧ (c == 95) = false := by
  have : ∀ i : Fin 256, ¬ i.val < 128 → (letB (UInt8.ofNat i.val) = false ∧ digB (UInt8.ofNat i.val) = false ∧ (UInt8.ofNat i.val == 95) = false) := by decide +kernel
  have h1 := this ⟨c.toNat, c.toNat_lt⟩ h
  simpa using h1
theorem rune_let (s : ByteArray) (pos : Nat) (h : pos < s.size) : letR (runeB s pos) = letB s[pos] ∧ digR (runeB s pos) = digB s[pos] ∧ (runeB s pos == 95) = (s[pos] == 95) := by
  by_cases ha : (s[pos]'h).toNat < 128
  · rw [(rune_low s pos h ha).1, letR_byte, digR_byte]
    refine ⟨rfl, rfl, ?_⟩
    rw [Bool.eq_iff_iff]
    simp only [beq_iff_eq]
    constructor
    · intro e; exact UInt8.toNat_inj.1 (by have : (95 : UInt8).toNat = 95 := rfl; omega)
    · intro e; rw [e]; rfl
  · have h1 := rune_high s pos h ha
    obtain ⟨e1, e2, e3⟩ := letB_high _ ha
    rw [e1, e2, e3]
    refine ⟨by unfold letR; rw [Bool.eq_false_iff]; simp; omega, by unfold digR; rw [Bool.eq_false_iff]; simp; omega, by simp; omega⟩
theorem letB_low {c : UInt8} (h : letB c = true ∨ digB c = true ∨ (c == 95) = true) : c.toNat < 128 := by
  apply Classical.byContradiction
  intro h2
  obtain ⟨e1, e2, e3⟩ := letB_high c h2
  rw [e1, e2, e3] at h
  simp at h
theorem Name_any (s : ByteArray) (hs : s.size ≤ 9223372036854775807) (w : World) :
    Calls Tryz.prog 64 #[.string s] w fun e w' => e = .returned (.bool (nameB s.data.toList)) ∧ Below w.heap.size w w' := by
  have hl := list_size s
  have HNB := Lib.hid (nameB_okK s.data.toList)
  have hok0 : okK s.data.toList 0 = (decide (0 < s.size) && decide (s.size ≤ 24)) := by show (decide (0 < s.data.toList.length) && decide (s.data.toList.length ≤ 24)) = _; rw [hl]
  have hfin : okK s.data.toList s.size = nameB s.data.toList := by rw [← HNB.out, hl]
  have hno : ∀ k, k < s.size → okAt k (s.data.toList.getD k 0) = false → false = nameB s.data.toList := fun k hk h => by
    rw [← hfin]
    have h1 : okK s.data.toList (k + 1) = false := by show (okK s.data.toList k && okAt k (s.data.toList.getD k 0)) = false; rw [h, Bool.and_false]
    have := okK_mono s.data.toList (k + 1) (s.size - (k + 1)) h1
    rw [← this]; congr 1; omega
  have HOK0 := Lib.hid hok0
  have HFIN := Lib.hid hfin
  have HNO := Lib.hid hno
  clear hl hok0 hfin hno
  have HLT := Lib.hid letter_any
  have HDG := Lib.hid digit_any
  by_cases h0 : s.size = 0
  · have hr : nameB s.data.toList = false := by
      have e : s.data.toList = [] := List.length_eq_zero_iff.1 (by rw [list_size]; exact h0)
      rw [e]; rfl
    have e1 : s.toList = [] := by
      rw [ByteArray.toList_eq]; exact List.length_eq_zero_iff.1 (by rw [list_size]; exact h0)
    have e2 : (!s.toList.isEmpty) = false := by rw [e1]; rfl
    have HR := Lib.hid hr.symm
    clear hr h0
    go_enter Tryz.func64, Tryz.ntmps64
    go_wp2_with fail
    go_ret
    exact ⟨ret_b HR.out, Below.refl _ _⟩
  · have e1 : s.toList.isEmpty = false := by
      cases e : s.toList with
      | nil => rw [ByteArray.toList_eq] at e; have := congrArg List.length e; rw [list_size] at this; exact absurd this h0
      | cons => rfl
    have e2 : (s.toList == []) = false := by
      cases e : s.toList with
      | nil => rw [e] at e1; cases e1
      | cons => rfl
    have e3 : (!s.toList.isEmpty) = true := by rw [e1]; rfl
    have e4 : ¬ s.toList = [] := by
      intro e; rw [e] at e1; cases e1
    by_cases h24 : s.size ≤ 24
    · have h24i : (s.size : Int) ≤ 24 := by omega
      have h24j : ¬ (24 : Int) < (s.size : Int) := by omega
      have HZ := Lib.hid (show okK s.data.toList 0 = true by rw [HOK0.out]; simp; omega)
      go_enter Tryz.func64, Tryz.ntmps64
      go_wp2_with fail
      go_loopw [] (fun wr => ∃ pos : Nat, wr.heap[w.heap.size]? = some (.stringIter s pos) ∧ Below w.heap.size w wr ∧ pos ≤ s.size ∧ Hid (okK s.data.toList pos = true)) (fun wr => s.size - wr.iterPos w.heap.size)
      case atStart => exact ⟨0, World.iter_heap w s 0, (Below.refl _ _).alloc (Nat.le_refl _) _, by omega, HZ⟩
      case round =>
        obtain ⟨pos, hit, hbw, hps, HK⟩ := hrel
        have HBW := Lib.hid hbw
        clear hbw
        by_cases hp : pos < s.size
        · have hnx : ∀ ty, (Instr.next (.pointer (some ⟨w.heap.size, 0, none⟩)) true ty).run Tryz.prog wr = _ := fun ty => Lib.run_next_any_at wr w.heap.size s pos ty hit hp
          have hit2 := Lib.iterAt_heap wr w.heap.size s pos (pos + (Utf8.decode s pos).2) hit
          have hbw2 := Lib.below_iterAt HBW.out (k := w.heap.size) (Nat.le_refl _) s (pos + (Utf8.decode s pos).2)
          obtain ⟨r1, r2, r3⟩ := rune_let s pos hp
          have hg := getElem_list s pos hp
          have hok : okK s.data.toList (pos + 1) = okAt pos s[pos] := by show (okK s.data.toList pos && okAt pos (s.data.toList.getD pos 0)) = _; rw [HK.out, hg]; rfl
          have hno := HNO.out pos hp
          rw [hg] at hno
          have hlow : (letB s[pos] = true ∨ digB s[pos] = true ∨ (s[pos] == 95) = true) → (Utf8.decode s pos).2 = 1 := fun h => (rune_low s pos hp (letB_low h)).2
          have hm : wr.iterPos w.heap.size = pos := by simp [World.iterPos, hit]
          have HM := Lib.hid hm
          have hrn : ((Utf8.decode s pos).1 : Int) = runeB s pos := rfl
          rw [hrn] at hnx
          have HITZ := Lib.hid hit2
          have HB2 := Lib.hid hbw2
          have HOKS := Lib.hid hok
          have HNO2 := Lib.hid hno
          have HLOW := Lib.hid hlow
          have HLT2 := Lib.hid (HLT.out (runeB s pos))
          have HDG2 := Lib.hid (HDG.out (runeB s pos))
          have HR1 := Lib.hid r1
          have HR2 := Lib.hid r2
          have HR3 := Lib.hid r3
          clear hit hit2 hbw2 hg hok hno hlow hm hrn r1 r2 r3
          generalize hW1 : wr.iterAt w.heap.size s (pos + (Utf8.decode s pos).2) = W1 at *
          have HW1 := Lib.hid hW1
          clear hW1
          generalize runeB s pos = rn at *
          cases hlb : letB s[pos] with
          | true =>
            have hc := HLT2.out
            rw [HR1.out, hlb] at hc
            have HC := Lib.hid hc
            have HLB := Lib.hid hlb
            clear hc hlb
            go_wp2_with fail
            refine (HC.out _).mono ?_
            rintro e w' ⟨rfl, rfl⟩
            go_wp2_with fail
            go_roundw
            case rel =>
              have e1 := HLOW.out (.inl HLB.out)
              exact ⟨pos + 1, by rw [← e1]; exact HITZ.out, HB2.out, by omega, Lib.hid (by rw [HOKS.out]; unfold okAt; rw [HLB.out]; rfl)⟩
            case measure =>
              have e1 := HLOW.out (.inl HLB.out)
              have e2 : W1.iterPos w.heap.size = pos + 1 := by rw [← e1]; simp [World.iterPos, HITZ.out]
              rw [e2, HM.out]; omega
          | false =>
            have hc := HLT2.out
            rw [HR1.out, hlb] at hc
            have HC := Lib.hid hc
            have HLB := Lib.hid hlb
            clear hc hlb
            by_cases hz : pos = 0
            · subst hz
              have HR := Lib.hid (HNO2.out (by unfold okAt; rw [HLB.out]; rfl))
              go_wp2_with fail
              refine (HC.out _).mono ?_
              rintro e w' ⟨rfl, rfl⟩
              go_wp2_with fail
              go_ret
              exact ⟨ret_b HR.out, HB2.out⟩
            · have hz1 : ((pos : Int) == 0) = false := by simp; omega
              have hz2 : (pos == 0) = false := by simpa using hz
              have hz3 : 0 < pos := by omega
              have hdp : decide (0 < pos) = true := by simpa using hz3
              have HDP := Lib.hid hdp
              clear hdp
              cases hdb : digB s[pos] with
              | true =>
                have hd := HDG2.out
                rw [HR2.out, hdb] at hd
                have HD := Lib.hid hd
                have HDB := Lib.hid hdb
                clear hd hdb
                go_wp2_with fail
                refine (HC.out _).mono ?_
                rintro e w' ⟨rfl, rfl⟩
                go_wp2_with fail
                refine (HD.out _).mono ?_
                rintro e w' ⟨rfl, rfl⟩
                go_wp2_with fail
                go_roundw
                case rel =>
                  have e1 := HLOW.out (.inr (.inl HDB.out))
                  exact ⟨pos + 1, by rw [← e1]; exact HITZ.out, HB2.out, by omega, Lib.hid (by rw [HOKS.out]; unfold okAt; rw [HLB.out, HDB.out, HDP.out]; rfl)⟩
                case measure =>
                  have e1 := HLOW.out (.inr (.inl HDB.out))
                  have e2 : W1.iterPos w.heap.size = pos + 1 := by rw [← e1]; simp [World.iterPos, HITZ.out]
                  rw [e2, HM.out]; omega
              | false =>
                have hd := HDG2.out
                rw [HR2.out, hdb] at hd
                have HD := Lib.hid hd
                have HDB := Lib.hid hdb
                clear hd hdb
                cases h95 : (s[pos] == 95) with
                | true =>
                  have q1 : (rn == 95) = true := by rw [HR3.out, h95]
                  have q2 : (rn != 95) = false := by simp only [bne, q1]; rfl
                  have H95 := Lib.hid h95
                  clear h95
                  go_wp2_with fail
                  refine (HC.out _).mono ?_
                  rintro e w' ⟨rfl, rfl⟩
                  go_wp2_with fail
                  refine (HD.out _).mono ?_
                  rintro e w' ⟨rfl, rfl⟩
                  go_wp2_with fail
                  go_roundw
                  case rel =>
                    have e1 := HLOW.out (.inr (.inr H95.out))
                    exact ⟨pos + 1, by rw [← e1]; exact HITZ.out, HB2.out, by omega, Lib.hid (by rw [HOKS.out]; unfold okAt; rw [HLB.out, HDB.out, HDP.out, H95.out]; rfl)⟩
                  case measure =>
                    have e1 := HLOW.out (.inr (.inr H95.out))
                    have e2 : W1.iterPos w.heap.size = pos + 1 := by rw [← e1]; simp [World.iterPos, HITZ.out]
                    rw [e2, HM.out]; omega
                | false =>
                  have q1 : (rn == 95) = false := by rw [HR3.out, h95]
                  have q2 : (rn != 95) = true := by simp only [bne, q1]; rfl
                  have HR := Lib.hid (HNO2.out (by unfold okAt; rw [HLB.out, HDB.out, h95]; simp))
                  clear h95
                  go_wp2_with fail
                  refine (HC.out _).mono ?_
                  rintro e w' ⟨rfl, rfl⟩
                  go_wp2_with fail
                  refine (HD.out _).mono ?_
                  rintro e w' ⟨rfl, rfl⟩
                  go_wp2_with fail
                  go_ret
                  exact ⟨ret_b HR.out, HB2.out⟩
        · obtain rfl : pos = s.size := by omega
          have hnx : ∀ ty, (Instr.next (.pointer (some ⟨w.heap.size, 0, none⟩)) true ty).run Tryz.prog wr = _ := fun ty => Lib.run_next_end_at wr w.heap.size s s.size ty hit hp
          have HR := Lib.hid (show true = nameB s.data.toList by rw [← HFIN.out, HK.out])
          clear hit
          go_wp2_with fail
          go_ret
          exact ⟨ret_b HR.out, HBW.out⟩
    · have h24i : ¬ (s.size : Int) ≤ 24 := by omega
      have h24j : (24 : Int) < (s.size : Int) := by omega
      have hr : false = nameB s.data.toList := by
        rw [← HFIN.out]
        have h1 : okK s.data.toList 0 = false := by rw [HOK0.out]; simp; omega
        have := okK_mono s.data.toList 0 s.size h1
        rw [Nat.zero_add] at this
        exact this.symm
      have HR := Lib.hid hr
      clear hr
      go_enter Tryz.func64, Tryz.ntmps64
      go_wp2_with fail
      go_ret
      exact ⟨ret_b HR.out, Below.refl _ _⟩
end Go.Proofs.YtlmmfhbdebfgkaaGreatDoor.Va
