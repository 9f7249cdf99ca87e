/-
  awake of seen's laws.
-/
import Derived.Test.YtopaaokclfnhdaaSnD
namespace Go.Proofs.Ytopaaokclfnhdaa.Sn
open Go Go.RowKit
set_option linter.unusedVariables false
set_option linter.unusedSimpArgs false

theorem row_lit (w : World) (l : List Int) (cs : Array Value) (h : cs = (i64C l).toArray) : Row (w.alloc (.cells cs 2)) (some ⟨w.heap.size, 0, none⟩) l l.length := by
  subst h
  refine ⟨fun i hi => ⟨w.heap.size, 0, rfl, ?_, by simp⟩, Nat.le_refl _⟩
  have := cell_of_row _ _ (0 + i) _ _ (0, 0) (heap_alloc_new w (.cells (i64C l).toArray 2))
  rw [this]
  simp [i64C, List.getD, hi]

set_option maxRecDepth 100000 in
set_option maxHeartbeats 4000000 in
theorem awake20_any (w : World) : Calls Try.prog 6 #[] w fun e w' => e = .returned (.bool true) ∧ Below w.heap.size w w' := by
  have h0 := (Below.refl w.heap.size w).alloc (Nat.le_refl _) (.cells #[.int .i64 2, .int .i64 5] 2)
  have HA := Lib.hid (add_any [2, 5] 3 9 (by decide) _ _ _ (row_lit w [2, 5] _ rfl))
  have HM := Lib.hid (show addM [2, 5] 3 9 = ([2, 3, 5], 0) by decide)
  have H0 := Lib.hid h0
  clear h0
  rw [HM.out] at HA
  go_enter Try.func6, Try.ntmps6
  go_wp2_with fail
  refine HA.out.mono ?_
  rintro e w1 ⟨⟨a, c, rfl, hrow⟩, b1⟩
  have B1 := Lib.hid (H0.out.trans (b1.mono H0.out.size))
  have HR := Lib.hid hrow
  clear hrow b1
  go_wp2_with fail
  have h2 := (Below.refl w1.heap.size w1).alloc (Nat.le_refl _) (.cells #[.int .i64 2, .int .i64 3, .int .i64 5] 2)
  refine (same_any [2, 3, 5] [2, 3, 5] (by decide) a _ c 3 _ (HR.out.below h2).1 (row_lit w1 [2, 3, 5] _ rfl).1).mono ?_
  rintro e w2 ⟨rfl, b2⟩
  have B2 := Lib.hid (h2.trans (b2.mono h2.size))
  clear h2 b2
  rw [decide_eq_true (show ([2, 3, 5] : List Int) = [2, 3, 5] from rfl)]
  have hk5 : knownB [2, 3, 5] 5 = true := by decide
  have hk4 : knownB [2, 3, 5] 4 = false := by decide
  have HK5 := Lib.hid (known_any [2, 3, 5] 5 (by decide) a c w2 (HR.out.below B2.out).1)
  have HK4 := Lib.hid (known_any [2, 3, 5] 4 (by decide) a c w2 (HR.out.below B2.out).1)
  rw [hk5] at HK5
  rw [hk4] at HK4
  clear hk5 hk4
  go_wp2_with fail
  refine HK5.out.mono ?_
  rintro e w3 ⟨rfl, rfl⟩
  go_wp2_with fail
  refine HK4.out.mono ?_
  rintro e w3 ⟨rfl, rfl⟩
  go_wp2_with fail
  go_ret
  exact ⟨rfl, B1.out.trans (B2.out.mono B1.out.size)⟩

end Go.Proofs.Ytopaaokclfnhdaa.Sn
