/-
  ExTaken, ExNamed.
-/
import Derived.Test.YtlmmfhbdebfgkaaGreatDoorZExRdgQ
import Derived.Test.YtlmmfhbdebfgkaaGreatDoorZLxToksQ
import Derived.Test.YtlmmfhbdebfgkaaGreatDoorZVlName
namespace Go.Proofs.YtlmmfhbdebfgkaaGreatDoor.Ex
open Go.RowKit
open Lx
set_option linter.unusedVariables false in
set_option maxRecDepth 100000 in
theorem taken_true (w : World) : Calls Tryz.prog 20 #[.string (S [116, 114, 117, 101])] w fun e w' => e = .returned (.bool true) ∧ w = w' := by
  have q_true : ((S [116, 114, 117, 101]).toList == ([116, 114, 117, 101] : List UInt8)) = true := by rw [eqB]; rfl
  have q_false : ((S [116, 114, 117, 101]).toList == ([102, 97, 108, 115, 101] : List UInt8)) = false := by rw [eqB]; rfl
  have q_msg : ((S [116, 114, 117, 101]).toList == ([109, 115, 103] : List UInt8)) = false := by rw [eqB]; rfl
  have q_len : ((S [116, 114, 117, 101]).toList == ([108, 101, 110] : List UInt8)) = false := by rw [eqB]; rfl
  have q_at : ((S [116, 114, 117, 101]).toList == ([97, 116] : List UInt8)) = false := by rw [eqB]; rfl
  have q_push : ((S [116, 114, 117, 101]).toList == ([112, 117, 115, 104] : List UInt8)) = false := by rw [eqB]; rfl
  go_enter Tryz.func20, Tryz.ntmps20
  go_wp2_with fail
  go_ret
  exact ⟨rfl, rfl⟩
set_option linter.unusedVariables false in
set_option maxRecDepth 100000 in
theorem taken_false (w : World) : Calls Tryz.prog 20 #[.string (S [102, 97, 108, 115, 101])] w fun e w' => e = .returned (.bool true) ∧ w = w' := by
  have q_true : ((S [102, 97, 108, 115, 101]).toList == ([116, 114, 117, 101] : List UInt8)) = false := by rw [eqB]; rfl
  have q_false : ((S [102, 97, 108, 115, 101]).toList == ([102, 97, 108, 115, 101] : List UInt8)) = true := by rw [eqB]; rfl
  have q_msg : ((S [102, 97, 108, 115, 101]).toList == ([109, 115, 103] : List UInt8)) = false := by rw [eqB]; rfl
  have q_len : ((S [102, 97, 108, 115, 101]).toList == ([108, 101, 110] : List UInt8)) = false := by rw [eqB]; rfl
  have q_at : ((S [102, 97, 108, 115, 101]).toList == ([97, 116] : List UInt8)) = false := by rw [eqB]; rfl
  have q_push : ((S [102, 97, 108, 115, 101]).toList == ([112, 117, 115, 104] : List UInt8)) = false := by rw [eqB]; rfl
  go_enter Tryz.func20, Tryz.ntmps20
  go_wp2_with fail
  go_ret
  exact ⟨rfl, rfl⟩
set_option linter.unusedVariables false in
set_option maxRecDepth 100000 in
theorem taken_msg (w : World) : Calls Tryz.prog 20 #[.string (S [109, 115, 103])] w fun e w' => e = .returned (.bool true) ∧ w = w' := by
  have q_true : ((S [109, 115, 103]).toList == ([116, 114, 117, 101] : List UInt8)) = false := by rw [eqB]; rfl
  have q_false : ((S [109, 115, 103]).toList == ([102, 97, 108, 115, 101] : List UInt8)) = false := by rw [eqB]; rfl
  have q_msg : ((S [109, 115, 103]).toList == ([109, 115, 103] : List UInt8)) = true := by rw [eqB]; rfl
  have q_len : ((S [109, 115, 103]).toList == ([108, 101, 110] : List UInt8)) = false := by rw [eqB]; rfl
  have q_at : ((S [109, 115, 103]).toList == ([97, 116] : List UInt8)) = false := by rw [eqB]; rfl
  have q_push : ((S [109, 115, 103]).toList == ([112, 117, 115, 104] : List UInt8)) = false := by rw [eqB]; rfl
  go_enter Tryz.func20, Tryz.ntmps20
  go_wp2_with fail
  go_ret
  exact ⟨rfl, rfl⟩
set_option linter.unusedVariables false in
set_option maxRecDepth 100000 in
theorem taken_len (w : World) : Calls Tryz.prog 20 #[.string (S [108, 101, 110])] w fun e w' => e = .returned (.bool true) ∧ w = w' := by
  have q_true : ((S [108, 101, 110]).toList == ([116, 114, 117, 101] : List UInt8)) = false := by rw [eqB]; rfl
  have q_false : ((S [108, 101, 110]).toList == ([102, 97, 108, 115, 101] : List UInt8)) = false := by rw [eqB]; rfl
  have q_msg : ((S [108, 101, 110]).toList == ([109, 115, 103] : List UInt8)) = false := by rw [eqB]; rfl
  have q_len : ((S [108, 101, 110]).toList == ([108, 101, 110] : List UInt8)) = true := by rw [eqB]; rfl
  have q_at : ((S [108, 101, 110]).toList == ([97, 116] : List UInt8)) = false := by rw [eqB]; rfl
  have q_push : ((S [108, 101, 110]).toList == ([112, 117, 115, 104] : List UInt8)) = false := by rw [eqB]; rfl
  go_enter Tryz.func20, Tryz.ntmps20
  go_wp2_with fail
  go_ret
  exact ⟨rfl, rfl⟩
set_option linter.unusedVariables false in
set_option maxRecDepth 100000 in
theorem taken_at (w : World) : Calls Tryz.prog 20 #[.string (S [97, 116])] w fun e w' => e = .returned (.bool true) ∧ w = w' := by
  have q_true : ((S [97, 116]).toList == ([116, 114, 117, 101] : List UInt8)) = false := by rw [eqB]; rfl
  have q_false : ((S [97, 116]).toList == ([102, 97, 108, 115, 101] : List UInt8)) = false := by rw [eqB]; rfl
  have q_msg : ((S [97, 116]).toList == ([109, 115, 103] : List UInt8)) = false := by rw [eqB]; rfl
  have q_len : ((S [97, 116]).toList == ([108, 101, 110] : List UInt8)) = false := by rw [eqB]; rfl
  have q_at : ((S [97, 116]).toList == ([97, 116] : List UInt8)) = true := by rw [eqB]; rfl
  have q_push : ((S [97, 116]).toList == ([112, 117, 115, 104] : List UInt8)) = false := by rw [eqB]; rfl
  go_enter Tryz.func20, Tryz.ntmps20
  go_wp2_with fail
  go_ret
  exact ⟨rfl, rfl⟩
set_option linter.unusedVariables false in
set_option maxRecDepth 100000 in
theorem taken_push (w : World) : Calls Tryz.prog 20 #[.string (S [112, 117, 115, 104])] w fun e w' => e = .returned (.bool true) ∧ w = w' := by
  have q_true : ((S [112, 117, 115, 104]).toList == ([116, 114, 117, 101] : List UInt8)) = false := by rw [eqB]; rfl
  have q_false : ((S [112, 117, 115, 104]).toList == ([102, 97, 108, 115, 101] : List UInt8)) = false := by rw [eqB]; rfl
  have q_msg : ((S [112, 117, 115, 104]).toList == ([109, 115, 103] : List UInt8)) = false := by rw [eqB]; rfl
  have q_len : ((S [112, 117, 115, 104]).toList == ([108, 101, 110] : List UInt8)) = false := by rw [eqB]; rfl
  have q_at : ((S [112, 117, 115, 104]).toList == ([97, 116] : List UInt8)) = false := by rw [eqB]; rfl
  have q_push : ((S [112, 117, 115, 104]).toList == ([112, 117, 115, 104] : List UInt8)) = true := by rw [eqB]; rfl
  go_enter Tryz.func20, Tryz.ntmps20
  go_wp2_with fail
  go_ret
  exact ⟨rfl, rfl⟩
set_option maxRecDepth 100000 in
theorem taken_no (x : List UInt8) (n_true : x ≠ wTrue) (n_false : x ≠ wFalse) (n_msg : x ≠ wMsg) (n_len : x ≠ wLen) (n_at : x ≠ wAt) (n_push : x ≠ wPush) (w : World) : Calls Tryz.prog 20 #[.string (S x)] w fun e w' => e = .returned (.bool false) ∧ w = w' := by
  have q_true : ((S x).toList == ([116, 114, 117, 101] : List UInt8)) = false := by rw [eqB]; simpa using (show x ≠ [116, 114, 117, 101] from n_true)
  have q_false : ((S x).toList == ([102, 97, 108, 115, 101] : List UInt8)) = false := by rw [eqB]; simpa using (show x ≠ [102, 97, 108, 115, 101] from n_false)
  have q_msg : ((S x).toList == ([109, 115, 103] : List UInt8)) = false := by rw [eqB]; simpa using (show x ≠ [109, 115, 103] from n_msg)
  have q_len : ((S x).toList == ([108, 101, 110] : List UInt8)) = false := by rw [eqB]; simpa using (show x ≠ [108, 101, 110] from n_len)
  have q_at : ((S x).toList == ([97, 116] : List UInt8)) = false := by rw [eqB]; simpa using (show x ≠ [97, 116] from n_at)
  have q_push : ((S x).toList == ([112, 117, 115, 104] : List UInt8)) = false := by rw [eqB]; simpa using (show x ≠ [112, 117, 115, 104] from n_push)
  go_enter Tryz.func20, Tryz.ntmps20
  go_wp2_with fail
  go_ret
  exact ⟨rfl, rfl⟩
theorem taken_any (x : List UInt8) (w : World) : Calls Tryz.prog 20 #[.string (S x)] w fun e w' => e = .returned (.bool (takenB x)) ∧ w = w' := by
  by_cases n_true : x = wTrue
  · subst n_true
    exact taken_true w
  by_cases n_false : x = wFalse
  · subst n_false
    exact taken_false w
  by_cases n_msg : x = wMsg
  · subst n_msg
    exact taken_msg w
  by_cases n_len : x = wLen
  · subst n_len
    exact taken_len w
  by_cases n_at : x = wAt
  · subst n_at
    exact taken_at w
  by_cases n_push : x = wPush
  · subst n_push
    exact taken_push w
  have h : takenB x = false := by
    unfold takenB
    simp [n_true, n_false, n_msg, n_len, n_at, n_push]
  rw [h]
  exact taken_no x n_true n_false n_msg n_len n_at n_push w
end Go.Proofs.YtlmmfhbdebfgkaaGreatDoor.Ex
namespace Go.Proofs.YtlmmfhbdebfgkaaGreatDoor.Ex
open Go.RowKit
open Lx
set_option linter.unusedVariables false in
set_option maxRecDepth 100000 in
set_option maxHeartbeats 4000000 in
theorem named_any (op num : Int) (t : List UInt8) (q : Option Addr) (k c : Nat) (ht : t.length ≤ 9223372036854775807) (w : World) :
    Calls Tryz.prog 35 #[.agg #[.int .i64 op, .int .i64 num, .string (S t), .slice q k c]] w fun e w' => e = .returned (.bool (namedB op t)) ∧ Below w.heap.size w w' := by
  have HNM := Lib.hid (fun (w1 : World) => show Calls Tryz.prog 64 #[.string (S t)] w1 fun e w' => e = .returned (.bool (Va.nameB t)) ∧ Below w1.heap.size w1 w' from by
    have := Va.Name_any (S t) (by rw [S_size]; exact ht) w1
    rw [S_toList] at this
    exact this)
  have HTK := Lib.hid (fun (w1 : World) => taken_any t w1)
  have HB0 := Lib.hid ((Below.refl w.heap.size w).alloc (Nat.le_refl _) (.cells #[.int .i64 op, .int .i64 num, .string (S t), .slice q k c] 24))
  have HX0 := Lib.hid (Bx.new w (.int .i64 op) (.int .i64 num) (.string (S t)) (.slice q k c))
  clear ht
  unfold namedB
  by_cases h4 : op = 4
  · subst h4
    simp only [beq_self_eq_true, Bool.true_or, Bool.not_true, Bool.false_or]
    go_enter Tryz.func35, Tryz.ntmps35
    go_wp2_with fail
    refine (HNM.out _).mono ?_
    rintro e w1 ⟨rfl, b1⟩
    have HB1 := Lib.hid (HB0.out.trans (b1.mono (by simp)))
    clear b1
    go_wp2_with fail
    go_ret
    exact ⟨by simp, HB1.out⟩
  · by_cases h7 : op = 7
    · subst h7
      go_enter Tryz.func35, Tryz.ntmps35
      go_wp2_with fail
      refine (HNM.out _).mono ?_
      rintro e w1 ⟨rfl, b1⟩
      have HB1 := Lib.hid (HB0.out.trans (b1.mono (by simp)))
      clear b1
      go_wp2_with fail
      go_ret
      exact ⟨by simp, HB1.out⟩
    · by_cases h6 : op = 6
      · subst h6
        cases hnm : Va.nameB t with
        | true =>
          rw [hnm] at HNM
          go_enter Tryz.func35, Tryz.ntmps35
          go_wp2_with fail
          refine (HNM.out _).mono ?_
          rintro e w1 ⟨rfl, b1⟩
          have hx := HX0.out.keep (Kept.of_below (ok := fun _ => True) b1) trivial
          have p2 := hx.c2
          have HB1 := Lib.hid (HB0.out.trans (b1.mono (by simp)))
          clear b1 hx
          go_wp2_with fail
          refine (HTK.out _).mono ?_
          rintro e w2 ⟨rfl, rfl⟩
          go_wp2_with fail
          go_ret
          exact ⟨by simp, HB1.out⟩
        | false =>
          rw [hnm] at HNM
          go_enter Tryz.func35, Tryz.ntmps35
          go_wp2_with fail
          refine (HNM.out _).mono ?_
          rintro e w1 ⟨rfl, b1⟩
          have HB1 := Lib.hid (HB0.out.trans (b1.mono (by simp)))
          clear b1
          go_wp2_with fail
          go_ret
          exact ⟨by simp, HB1.out⟩
      · have e4 : (op == 4) = false := by rw [beq_eq_false_iff_ne]; exact h4
        have e7 : (op == 7) = false := by rw [beq_eq_false_iff_ne]; exact h7
        have e6 : (op == 6) = false := by rw [beq_eq_false_iff_ne]; exact h6
        go_enter Tryz.func35, Tryz.ntmps35
        go_wp2_with fail
        go_ret
        exact ⟨by simp [e4, e7, e6], HB0.out⟩
end Go.Proofs.YtlmmfhbdebfgkaaGreatDoor.Ex
