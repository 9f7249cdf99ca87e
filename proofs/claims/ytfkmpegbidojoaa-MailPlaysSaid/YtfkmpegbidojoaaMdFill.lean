/-
  Fill: a box of given messages.
-/
import Derived.Test.YtfkmpegbidojoaaMdAll
namespace Go.Proofs.Ytfkmpegbidojoaa.Md
open Go.RowKit
open Va
set_option linter.unusedVariables false
set_option linter.unusedSimpArgs false

/-- A message that may be handled: its rows aren't long. -/
structure Mok (m : MailP) : Prop where
  big : MBig m
  key : m.key.length ≤ 1000
  fields : m.fields.length ≤ 1000
def Filled (most : Int) (l : List MailP) (w : World) (e : Ending) (w' : World) : Prop :=
  if l.length ≤ capN most then e = .returned (.tuple #[.pointer (some ⟨w.heap.size + 1, 0, none⟩), .bool true]) ∧ BoxAt w.heap.size w' (w.heap.size + 1) w.heap.size (capN most) l
  else e = .returned (.tuple #[.pointer none, .bool false])

end Go.Proofs.Ytfkmpegbidojoaa.Md
