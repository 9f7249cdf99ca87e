/-
  The verdict on a message, of the program and of the document; the law.
-/
import Derived.Test.YtimlncabelkgaaaRvOpen
import Derived.WalkKit
import Derived.Below
import Derived.Lib.Hide
import Derived.WalkLawsBesides
namespace Go.Proofs.Ytimlncabelkgaaa.Rv
open Go.RowKit
set_option linter.unusedVariables false
set_option linter.unusedSimpArgs false

/-- What becomes of a message, and why. -/
def verdM (lo hi : Int) (sp : Bool) (n : Int) : Int × Int :=
  if n = 0 ∧ sp = true then (1, 0) else if lo ≤ n ∧ n ≤ hi then (0, 0) else if n = 0 then (2, 1) else if n < lo then (2, 2) else (2, 3)
theorem res2 (a b : Int) (p : Int × Int) (h : (a, b) = p) : Ending.returned (.tuple #[.int .i64 a, .int .i64 b]) = .returned (.tuple #[.int .i64 p.1, .int .i64 p.2]) := by
  subst h; rfl

set_option maxRecDepth 100000 in
set_option maxHeartbeats 4000000 in
theorem verdict_any (u0 u1 u2 u3 u4 u5 : Value) (lo hi : Int) (sp : Bool) (u9 : Value) (n : Int) (w : World) :
    Calls Try.prog 5 #[.agg (chC u0 u1 u2 u3 u4 u5 lo hi sp u9), .int .i64 n] w fun e w' => e = .returned (.tuple #[.int .i64 (verdM lo hi sp n).1, .int .i64 (verdM lo hi sp n).2]) ∧ Below w.heap.size w w' := by
  have HB := Lib.hid ((Below.refl w.heap.size w).alloc (Nat.le_refl _) (.cells (chC u0 u1 u2 u3 u4 u5 lo hi sp u9) 25))
  unfold chC at *
  obtain ⟨V, hV⟩ : ∃ V, verdM lo hi sp n = V := ⟨_, rfl⟩
  rw [hV]
  have HV := Lib.hid hV
  clear hV
  cases sp
  all_goals
    go_enter Try.func5, Try.ntmps5
    go_wp2_with fail
  all_goals (go_ret2; refine ⟨res2 _ _ _ ?_, HB.out⟩; rw [← HV.out]; unfold verdM)
  all_goals (try simp only [beq_iff_eq, beq_eq_false_iff_ne, ne_eq] at *)
  all_goals (repeat' split)
  all_goals (first | rfl | omega | simp_all | (exfalso; omega))

set_option maxRecDepth 100000 in
set_option maxHeartbeats 4000000 in
theorem rverdict_any (u0 u1 u2 u3 u4 u5 : Value) (lo hi : Int) (sp : Bool) (u9 : Value) (n : Int) (w : World) :
    Calls Try.prog 6 #[.agg (chC u0 u1 u2 u3 u4 u5 lo hi sp u9), .int .i64 n] w fun e w' => e = .returned (.tuple #[.int .i64 (verdM lo hi sp n).1, .int .i64 (verdM lo hi sp n).2]) ∧ Below w.heap.size w w' := by
  have HB := Lib.hid ((Below.refl w.heap.size w).alloc (Nat.le_refl _) (.cells (chC u0 u1 u2 u3 u4 u5 lo hi sp u9) 25))
  unfold chC at *
  obtain ⟨V, hV⟩ : ∃ V, verdM lo hi sp n = V := ⟨_, rfl⟩
  rw [hV]
  have HV := Lib.hid hV
  clear hV
  cases sp
  all_goals
    go_enter Try.func6, Try.ntmps6
    go_wp2_with fail
  all_goals (go_ret2; refine ⟨res2 _ _ _ ?_, HB.out⟩; rw [← HV.out]; unfold verdM)
  all_goals (try simp only [beq_iff_eq, beq_eq_false_iff_ne, ne_eq] at *)
  all_goals (repeat' split)
  all_goals (first | rfl | omega | simp_all | (exfalso; omega))


/-- A channel of the examples, in memory. -/
def Ch1 (w : World) (b : Nat) : Prop := w.heap[b]? = some (.cells (chC (.string ⟨#[]⟩) (.string ⟨#[]⟩) (.string ⟨#[]⟩) (.string ⟨#[]⟩) (.string ⟨#[]⟩) (.slice none 0 0) 1 2 true (.slice none 0 0)) 25 (0, 0))
theorem Ch1.c {w : World} {b : Nat} (h : Ch1 w b) (j : Nat) : w.cell? ⟨b, j, none⟩ = (chC (.string ⟨#[]⟩) (.string ⟨#[]⟩) (.string ⟨#[]⟩) (.string ⟨#[]⟩) (.string ⟨#[]⟩) (.slice none 0 0) 1 2 true (.slice none 0 0))[j]? := cell_of_row w b j _ _ (0, 0) h

set_option maxRecDepth 100000 in
set_option maxHeartbeats 4000000 in
theorem awake_any (w : World) : Calls Try.prog 4 #[] w fun e w' => e = .returned (.bool true) ∧ Below w.heap.size w w' := by
  have HV := Lib.hid (fun lo hi sp n W => verdict_any (.string ⟨#[]⟩) (.string ⟨#[]⟩) (.string ⟨#[]⟩) (.string ⟨#[]⟩) (.string ⟨#[]⟩) (.slice none 0 0) lo hi sp (.slice none 0 0) n W)
  unfold chC at HV
  have V1 := Lib.hid (show verdM 1 2 true 0 = (1, 0) by decide)
  have V2 := Lib.hid (show verdM 1 2 true 2 = (0, 0) by decide)
  have V3 := Lib.hid (show verdM 1 2 true 3 = (2, 3) by decide)
  have V4 := Lib.hid (show verdM 0 1 false 0 = (0, 0) by decide)
  have HC := Lib.hid (show Ch1 _ w.heap.size from heap_alloc_new w _)
  have HB := Lib.hid ((Below.refl w.heap.size w).alloc (Nat.le_refl _) (.cells (chC (.string ⟨#[]⟩) (.string ⟨#[]⟩) (.string ⟨#[]⟩) (.string ⟨#[]⟩) (.string ⟨#[]⟩) (.slice none 0 0) 1 2 true (.slice none 0 0)) 25))
  go_enter Try.func4, Try.ntmps4
  go_wp2_with fail
  refine (HV.out 1 2 true 0 _).mono ?_
  rintro e w1 ⟨rfl, b1⟩
  rw [V1.out]
  have h1 : Ch1 w1 w.heap.size := (b1.block w.heap.size (World.block_lt_of_cell? _ _ (HC.out.c 0))).trans HC.out
  have H1 := Lib.hid h1
  have HB1 := Lib.hid (HB.out.trans (b1.mono HB.out.size))
  have c0 := h1.c 0
  have c1 := h1.c 1
  have c2 := h1.c 2
  have c3 := h1.c 3
  have c4 := h1.c 4
  have c5 := h1.c 5
  have c6 := h1.c 6
  have c7 := h1.c 7
  have c8 := h1.c 8
  have c9 := h1.c 9
  simp only [chC, List.getElem?_toArray, List.getElem?_cons_zero, List.getElem?_cons_succ] at c0 c1 c2 c3 c4 c5 c6 c7 c8 c9
  clear b1 h1
  go_wp2_with fail
  refine (HV.out 1 2 true 2 _).mono ?_
  rintro e w2 ⟨rfl, b2⟩
  rw [V2.out]
  clear c0 c1 c2 c3 c4 c5 c6 c7 c8 c9
  have h2 : Ch1 w2 w.heap.size := (b2.block w.heap.size (World.block_lt_of_cell? _ _ (H1.out.c 0))).trans H1.out
  have H2 := Lib.hid h2
  have HB2 := Lib.hid (HB1.out.trans (b2.mono HB1.out.size))
  have c0 := h2.c 0
  have c1 := h2.c 1
  have c2 := h2.c 2
  have c3 := h2.c 3
  have c4 := h2.c 4
  have c5 := h2.c 5
  have c6 := h2.c 6
  have c7 := h2.c 7
  have c8 := h2.c 8
  have c9 := h2.c 9
  simp only [chC, List.getElem?_toArray, List.getElem?_cons_zero, List.getElem?_cons_succ] at c0 c1 c2 c3 c4 c5 c6 c7 c8 c9
  clear b2 h2
  go_wp2_with fail
  refine (HV.out 1 2 true 3 _).mono ?_
  rintro e w3 ⟨rfl, b3⟩
  rw [V3.out]
  have HB3 := Lib.hid (HB2.out.trans (b3.mono HB2.out.size))
  clear c0 c1 c2 c3 c4 c5 c6 c7 c8 c9 b3
  go_wp2_with fail
  refine (HV.out 0 1 false 0 _).mono ?_
  rintro e w4 ⟨rfl, b4⟩
  rw [V4.out]
  have HB4 := Lib.hid (HB3.out.trans (b4.mono HB3.out.size))
  clear b4
  go_wp2_with fail
  go_ret
  exact ⟨rfl, HB4.out⟩

set_option maxRecDepth 100000 in
set_option maxHeartbeats 4000000 in
theorem law_walk (u0 u1 u2 u3 u4 u5 : Value) (lo hi : Int) (sp : Bool) (u9 : Value) (n : Int) (w : World) :
    Calls Try.prog 3 #[.agg (chC u0 u1 u2 u3 u4 u5 lo hi sp u9), .int .i64 n] w fun e w' => e = .returned (.bool true) ∧ Below w.heap.size w w' := by
  have HA := Lib.hid (fun W => awake_any W)
  have HV := Lib.hid (fun W => verdict_any u0 u1 u2 u3 u4 u5 lo hi sp u9 n W)
  have HR := Lib.hid (fun W => rverdict_any u0 u1 u2 u3 u4 u5 lo hi sp u9 n W)
  have hb := (Below.refl w.heap.size w).alloc (Nat.le_refl _) (.cells (chC u0 u1 u2 u3 u4 u5 lo hi sp u9) 25)
  have HB := Lib.hid hb
  have HC := Lib.hid (show (w.alloc (.cells (chC u0 u1 u2 u3 u4 u5 lo hi sp u9) 25)).heap[w.heap.size]? = some (.cells (chC u0 u1 u2 u3 u4 u5 lo hi sp u9) 25 (0, 0)) from heap_alloc_new w _)
  clear hb
  generalize verdM lo hi sp n = V at *
  obtain ⟨v1, v2⟩ := V
  unfold chC at *
  go_enter Try.func3, Try.ntmps3
  go_wp2_with fail
  refine (HA.out _).mono ?_
  rintro e w1 ⟨rfl, b1⟩
  have h1 := (b1.block w.heap.size (World.block_lt_of_cell? _ _ (cell_of_row _ w.heap.size 0 _ _ (0, 0) HC.out))).trans HC.out
  have H1 := Lib.hid h1
  have HB1 := Lib.hid (HB.out.trans (b1.mono HB.out.size))
  have c0 := cell_of_row _ w.heap.size 0 _ _ (0, 0) h1
  have c1 := cell_of_row _ w.heap.size 1 _ _ (0, 0) h1
  have c2 := cell_of_row _ w.heap.size 2 _ _ (0, 0) h1
  have c3 := cell_of_row _ w.heap.size 3 _ _ (0, 0) h1
  have c4 := cell_of_row _ w.heap.size 4 _ _ (0, 0) h1
  have c5 := cell_of_row _ w.heap.size 5 _ _ (0, 0) h1
  have c6 := cell_of_row _ w.heap.size 6 _ _ (0, 0) h1
  have c7 := cell_of_row _ w.heap.size 7 _ _ (0, 0) h1
  have c8 := cell_of_row _ w.heap.size 8 _ _ (0, 0) h1
  have c9 := cell_of_row _ w.heap.size 9 _ _ (0, 0) h1
  simp only [List.getElem?_toArray, List.getElem?_cons_zero, List.getElem?_cons_succ] at c0 c1 c2 c3 c4 c5 c6 c7 c8 c9
  clear b1 h1
  go_wp2_with fail
  refine (HV.out _).mono ?_
  rintro e w2 ⟨rfl, b2⟩
  have h1 := (b2.block w.heap.size (World.block_lt_of_cell? _ _ (cell_of_row _ w.heap.size 0 _ _ (0, 0) H1.out))).trans H1.out
  have HB2 := Lib.hid (HB1.out.trans (b2.mono HB1.out.size))
  clear c0 c1 c2 c3 c4 c5 c6 c7 c8 c9
  have c0 := cell_of_row _ w.heap.size 0 _ _ (0, 0) h1
  have c1 := cell_of_row _ w.heap.size 1 _ _ (0, 0) h1
  have c2 := cell_of_row _ w.heap.size 2 _ _ (0, 0) h1
  have c3 := cell_of_row _ w.heap.size 3 _ _ (0, 0) h1
  have c4 := cell_of_row _ w.heap.size 4 _ _ (0, 0) h1
  have c5 := cell_of_row _ w.heap.size 5 _ _ (0, 0) h1
  have c6 := cell_of_row _ w.heap.size 6 _ _ (0, 0) h1
  have c7 := cell_of_row _ w.heap.size 7 _ _ (0, 0) h1
  have c8 := cell_of_row _ w.heap.size 8 _ _ (0, 0) h1
  have c9 := cell_of_row _ w.heap.size 9 _ _ (0, 0) h1
  simp only [List.getElem?_toArray, List.getElem?_cons_zero, List.getElem?_cons_succ] at c0 c1 c2 c3 c4 c5 c6 c7 c8 c9
  clear b2 h1
  go_wp2_with fail
  refine (HR.out _).mono ?_
  rintro e w3 ⟨rfl, b3⟩
  have HB3 := Lib.hid (HB2.out.trans (b3.mono HB2.out.size))
  clear b3 c0 c1 c2 c3 c4 c5 c6 c7 c8 c9
  go_wp2_with fail
  refine (HA.out _).mono ?_
  rintro e w4 ⟨rfl, b4⟩
  have HB4 := Lib.hid (HB3.out.trans (b4.mono HB3.out.size))
  clear b4
  go_wp2_with fail
  go_ret
  exact ⟨rfl, HB4.out⟩

end Go.Proofs.Ytimlncabelkgaaa.Rv
