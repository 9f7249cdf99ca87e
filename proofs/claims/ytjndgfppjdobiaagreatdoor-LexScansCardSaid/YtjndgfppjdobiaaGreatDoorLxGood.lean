/-
  What a law, or a reader, keeps while it calls.
-/
import Derived.Test.YtjndgfppjdobiaaGreatDoorMem
namespace Go.Proofs.YtjndgfppjdobiaaGreatDoor.Lx
open Go.RowKit

/-- What was there at first is still there. -/
def Good (W0 w : World) : Prop := Below W0.heap.size W0 w
theorem Good.refl (w : World) : Good w w := Below.refl _ _
theorem Good.step {W0 w w' : World} (h : Good W0 w) (b : Below w.heap.size w w') : Good W0 w' := Below.trans h (b.mono h.size)
theorem Good.drew {W0 w : World} (h : Good W0 w) : Good W0 w.drew := ⟨h.os, h.tape, h.output, h.size, h.block⟩
theorem Good.alloc {W0 w : World} (h : Good W0 w) (o : Obj) : Good W0 (w.alloc o) := Below.alloc h h.size o
theorem good_id {W0 w : World} (h : Hid (Good W0 w)) : Good W0 w := h.out
theorem good_drew {W0 w : World} (h : Hid (Good W0 w)) : Good W0 w.drew := h.out.drew
theorem good_drew2 {W0 w : World} (h : Hid (Good W0 w)) : Good W0 w.drew.drew := h.out.drew.drew

end Go.Proofs.YtjndgfppjdobiaaGreatDoor.Lx
