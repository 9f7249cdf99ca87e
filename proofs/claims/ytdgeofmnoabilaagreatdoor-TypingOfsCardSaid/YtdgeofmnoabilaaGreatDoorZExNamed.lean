/-
  The program's expressions: has a node a name that it may have?
-/
import Derived.Test.YtdgeofmnoabilaaGreatDoorZExTaken
import Derived.Test.YtdgeofmnoabilaaGreatDoorZTzC
import Derived.Test.YtdgeofmnoabilaaGreatDoorZVlName
namespace Go.Proofs.YtdgeofmnoabilaaGreatDoor.Ex
open Go.RowKit
open Lx

set_option linter.unusedVariables false in
set_option maxRecDepth 100000 in
set_option maxHeartbeats 4000000 in
theorem named_any (op num : Int) (t : List UInt8) (q : Option Addr) (k c : Nat) (ht : t.length ≤ 9223372036854775807) (w : World) :
    Calls Tryz.prog 65 #[.agg #[.int .i64 op, .int .i64 num, .string (S t), .slice q k c]] w fun e w' => e = .returned (.bool (namedB op t)) ∧ Below w.heap.size w w' := by
  have HNM := Lib.hid (fun (w1 : World) => show Calls Tryz.prog 100 #[.string (S t)] w1 fun e w' => e = .returned (.bool (Va.nameB t)) ∧ Below w1.heap.size w1 w' from by
    have := Va.Name_any (S t) (by rw [S_size]; exact ht) w1
    rw [S_toList] at this
    exact this)
  have HTK := Lib.hid (fun (w1 : World) => taken_any t w1)
  have HB0 := Lib.hid ((Below.refl w.heap.size w).alloc (Nat.le_refl _) (.cells #[.int .i64 op, .int .i64 num, .string (S t), .slice q k c] 28))
  have HX0 := Lib.hid (Bx.new w (.int .i64 op) (.int .i64 num) (.string (S t)) (.slice q k c))
  clear ht
  unfold namedB
  by_cases h4 : op = 4
  · subst h4
    simp only [beq_self_eq_true, Bool.true_or, Bool.not_true, Bool.false_or]
    go_enter Tryz.func65, Tryz.ntmps65
    go_wp2_with fail
    refine (HNM.out _).mono ?_
    rintro e w1 ⟨rfl, b1⟩
    have HB1 := Lib.hid (HB0.out.trans (b1.mono (by simp)))
    clear b1
    go_wp2_with fail
    go_ret
    exact ⟨by simp, HB1.out⟩
  · by_cases h7 : op = 7
    · subst h7
      go_enter Tryz.func65, Tryz.ntmps65
      go_wp2_with fail
      refine (HNM.out _).mono ?_
      rintro e w1 ⟨rfl, b1⟩
      have HB1 := Lib.hid (HB0.out.trans (b1.mono (by simp)))
      clear b1
      go_wp2_with fail
      go_ret
      exact ⟨by simp, HB1.out⟩
    · by_cases h6 : op = 6
      · subst h6
        cases hnm : Va.nameB t with
        | true =>
          rw [hnm] at HNM
          go_enter Tryz.func65, Tryz.ntmps65
          go_wp2_with fail
          refine (HNM.out _).mono ?_
          rintro e w1 ⟨rfl, b1⟩
          have hx := HX0.out.keep (Kept.of_below (ok := fun _ => True) b1) trivial
          have p2 := hx.c2
          have HB1 := Lib.hid (HB0.out.trans (b1.mono (by simp)))
          clear b1 hx
          go_wp2_with fail
          refine (HTK.out _).mono ?_
          rintro e w2 ⟨rfl, rfl⟩
          go_wp2_with fail
          go_ret
          exact ⟨by simp, HB1.out⟩
        | false =>
          rw [hnm] at HNM
          go_enter Tryz.func65, Tryz.ntmps65
          go_wp2_with fail
          refine (HNM.out _).mono ?_
          rintro e w1 ⟨rfl, b1⟩
          have HB1 := Lib.hid (HB0.out.trans (b1.mono (by simp)))
          clear b1
          go_wp2_with fail
          go_ret
          exact ⟨by simp, HB1.out⟩
      · have e4 : (op == 4) = false := by rw [beq_eq_false_iff_ne]; exact h4
        have e7 : (op == 7) = false := by rw [beq_eq_false_iff_ne]; exact h7
        have e6 : (op == 6) = false := by rw [beq_eq_false_iff_ne]; exact h6
        go_enter Tryz.func65, Tryz.ntmps65
        go_wp2_with fail
        go_ret
        exact ⟨by simp [e4, e7, e6], HB0.out⟩

end Go.Proofs.YtdgeofmnoabilaaGreatDoor.Ex
