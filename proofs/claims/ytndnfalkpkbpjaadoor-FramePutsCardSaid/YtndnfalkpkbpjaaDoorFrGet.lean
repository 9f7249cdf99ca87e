/-
  The walk over the document's own Get of package frame.
-/
import Derived.Test.YtndnfalkpkbpjaaDoorFrRef
import Derived.Laws.ResultCell
namespace Go.Proofs.YtndnfalkpkbpjaaDoor.Fr
open Go.RowKit

theorem S_cut (s : ByteArray) (a b : Nat) : (s.extract a b).data.toList = cut s.data.toList a b := by
  rw [S_extract, S_toList]; rfl
theorem extract_sz (s : ByteArray) (a b : Nat) (h : b ≤ s.size) : (s.extract a b).size = b - a := by
  rw [S_extract, S_size]; simp; omega

/-- No unit. -/
def noUnit : Value := .agg #[.int .u32 0, .int .u64 0, .int .i64 0, .string ⟨#[]⟩]
/-- The unit that Get answers. -/
def unitV (l : List UInt8) : Value :=
  if getE l = 0 then .agg #[.int .u32 (val (cut l 4 8) : Nat), .int .u64 (val (cut l 8 16) : Nat), .int .i64 (val (cut l 16 17) : Nat), .string (S (cut l 21 (21 + cnt l)))] else noUnit

end Go.Proofs.YtndnfalkpkbpjaaDoor.Fr
