/-
  What comes in, opened: a channel (its numbers alone).
-/
import Derived.Test.YtimlncabelkgaaaRows
import Derived.WalkKit
import Derived.WalkSpells
import Derived.WalkLawsBesides
import Derived.Lib.Hide
import Derived.Below
import Derived.Deep.Slices
import Derived.ChangeArms
import Derived.Handed
namespace Go.Proofs.Ytimlncabelkgaaa.Rv
open Go.RowKit
set_option linter.unusedVariables false

section
variable {H : Type} {enc : TypeId × Value → H} {w : World} {base : Nat} {spare : Nat → Bool} {held : Bool}

/-- A channel's cells. -/
def chC (u0 u1 u2 u3 u4 u5 : Value) (lo hi : Int) (sp : Bool) (u9 : Value) : Array Value := #[u0, u1, u2, u3, u4, u5, .int .i64 lo, .int .i64 hi, .bool sp, u9]
theorem cells_1 : Try.prog.cellsOf 9 = 1 := by kernel_rfl
theorem cells_2 : Try.prog.cellsOf 22 = 1 := by kernel_rfl
theorem cells_3 : Try.prog.cellsOf 3 = 1 := by kernel_rfl
theorem cells_4 : Try.prog.cellsOf 4 = 1 := by kernel_rfl
theorem chan_open {n : Nat} {cs : List Value} {x : DataW H × List MemPlace} (hlen : cs.length = 10) (h : DataW.trod enc Try.prog w base spare held n 25 cs = some x) :
    ∃ u0 u1 u2 u3 u4 u5 lo hi sp u9, cs = (chC u0 u1 u2 u3 u4 u5 lo hi sp u9).toList := by
  match cs, hlen with
  | [c0, c1, c2, c3, c4, c5, c6, c7, c8, c9], _ =>
    obtain ⟨ys, m, _, rfl, _, hyl, hf⟩ := DataW.trod_struct Try.underlying25 h
    have hyl : ys.length = 10 := hyl
    have f6 := hf 6 _ rfl
    change DataW.trod _ _ _ _ _ _ _ 3 (([c0, c1, c2, c3, c4, c5, c6, c7, c8, c9].drop 6).take (Try.prog.cellsOf 3)) = _ at f6
    have f7 := hf 7 _ rfl
    change DataW.trod _ _ _ _ _ _ _ 3 (([c0, c1, c2, c3, c4, c5, c6, c7, c8, c9].drop 7).take (Try.prog.cellsOf 3)) = _ at f7
    have f8 := hf 8 _ rfl
    change DataW.trod _ _ _ _ _ _ _ 4 (([c0, c1, c2, c3, c4, c5, c6, c7, c8, c9].drop 8).take (Try.prog.cellsOf 4)) = _ at f8
    rw [cells_3] at f6 f7
    rw [cells_4] at f8
    simp only [List.drop_zero, List.drop_succ_cons, List.take_succ_cons, List.take_zero] at f6 f7 f8
    rw [List.getElem?_eq_getElem (by omega)] at f6 f7 f8
    obtain ⟨z6, e6, _⟩ := DataW.trod_int Try.underlying3 f6
    obtain ⟨z7, e7, _⟩ := DataW.trod_int Try.underlying3 f7
    obtain ⟨z8, e8, _⟩ := DataW.trod_bool Try.underlying4 f8
    simp only [List.cons.injEq, and_true] at e6 e7 e8
    subst e6 e7 e8
    exact ⟨c0, c1, c2, c3, c4, c5, z6, z7, z8, c9, rfl⟩
end

end Go.Proofs.Ytimlncabelkgaaa.Rv
