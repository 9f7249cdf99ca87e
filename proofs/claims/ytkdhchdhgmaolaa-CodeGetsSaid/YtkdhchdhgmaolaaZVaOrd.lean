/-
  The document's own answer for values: Order.
-/
import Derived.Test.YtkdhchdhgmaolaaZVaOrder
namespace Go.Proofs.Ytkdhchdhgmaolaa.Va
open Go.RowKit

theorem ret_i {a b : Int} (h : a = b) : Ending.returned (.int .i64 a) = .returned (.int .i64 b) := by rw [h]
/-- Behind j numbers of both lists, which are the same. -/
def OrdR (w W0 : World) (x y : List Int) (j : Nat) (wr : World) : Prop := j ≤ x.length ∧ j ≤ y.length ∧ preB x y j = true ∧ Below W0.heap.size W0 wr ∧ Below w.heap.size w wr

set_option linter.unusedSimpArgs false
end Go.Proofs.Ytkdhchdhgmaolaa.Va
