/-
  The walk over the law that each count, number, truth and text is written as the document says.
-/
import Derived.Test.YtjakahpjdjebkabPkLaws
import Derived.Deep.RegionWith
namespace Go.Proofs.Ytjakahpjdjebkab.Pk
open Go.RowKit

theorem one_byte (w : World) (c : UInt8) (v : Int) (hv : v = (c.toNat : Int)) :
    (convert 28 9 (.slice (some ⟨w.heap.size, 0, none⟩) 1 1)).run Try.prog (w.alloc (.cells #[.int .u8 v] 5)) = .ok (.string (S [c])) (w.alloc (.cells #[.int .u8 v] 5)) := by
  subst hv
  have hrow : Row8 (w.alloc (.cells #[.int .u8 (c.toNat : Int)] 5)) w.heap.size [c] := by
    intro j hj
    obtain rfl : j = 0 := by simpa using hj
    constructor
    · simp
    · simp
  exact hrow.back (P := Try.prog) 28 9 5 1 Try.underlying28 Try.underlying5 Try.underlying9 1 rfl

theorem truth_f (w : World) : Calls Try.prog 15 #[.bool false] w fun e w' => e = .returned (.string (S [0])) ∧ w = w' := truth_any false w
theorem truth_t (w : World) : Calls Try.prog 15 #[.bool true] w fun e w' => e = .returned (.string (S [1])) ∧ w = w' := truth_any true w

end Go.Proofs.Ytjakahpjdjebkab.Pk
