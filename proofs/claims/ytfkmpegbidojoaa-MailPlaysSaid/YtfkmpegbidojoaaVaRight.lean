/-
  The document's own answer for values: where they lie; Right.
-/
import Derived.Test.YtfkmpegbidojoaaVaRef
namespace Go.Proofs.Ytfkmpegbidojoaa.Va
open Go.RowKit

/-- A row of numbers among the arguments. -/
def NumsAt (w : World) (a : Option Addr) (l : List Int) : Prop := ∀ i, i < l.length → ∃ b off, a = some ⟨b, off, none⟩ ∧ w.cell? ⟨b, off + i, none⟩ = some (.int .i64 (l.getD i 0)) ∧ b < w.heap.size
theorem NumsAt.below {w w' : World} {a : Option Addr} {l : List Int} (h : NumsAt w a l) (b : Below w.heap.size w w') : NumsAt w' a l := fun i hi => by
  obtain ⟨g, off, e, hc, hl⟩ := h i hi
  exact ⟨g, off, e, (b.cell (p := ⟨g, off + i, none⟩) hl).trans hc, Nat.lt_of_lt_of_le hl b.size⟩
/-- A value as an argument. -/
def valC (v : V) (a : Option Addr) (cap : Nat) : Value := .agg #[.int .i64 v.kind, .int .i64 v.num, .string (S v.text), .slice a v.list.length cap]
structure VOk (v : V) : Prop where
  text : v.text.length ≤ 9223372036854775807
  list : v.list.length ≤ 9223372036854775807
theorem ret_b {a b : Bool} (h : a = b) : Ending.returned (.bool a) = .returned (.bool b) := by rw [h]

set_option linter.unusedSimpArgs false
end Go.Proofs.Ytfkmpegbidojoaa.Va
