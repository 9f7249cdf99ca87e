/-
  No cell of these rows narrows 'for every input' (looked for: loops, veiled, ifaces, maps, wideKeys, modest, calm, conditions, laid).
  DERIVED. THE GIVEN ROWS OF THIS SEAT. 3 by the template 'for every input the law returns true; each argument reads behind the call as it read before'; 0 by the template 'total and deterministic' (their statements: YtfkmpegbidojoaaTotals.lean).
  GIVEN WITH THE SEED: the statements are not yours to turn. If you find one false, say at which input.
  Laid BY PROGRAM, IN A SANDBOX (cutbox-rows.mjs): the forced cells as the released guide's own fill.sh prints them over the translation d05f649f94ec2118… (all of the seat's roots in one cut). By AI agents, Wed Nov 11 2026. No macro, syntax, notation, axiom, sorry.
-/
import Derived.Test.YtfkmpegbidojoaaChecked
import GoSem.Claim
import GoSem.ClaimJoined
import GoSem.ClaimMapViews
import Derived.JoinedTies
import Derived.KernelRfl
namespace Go.Proofs.Ytfkmpegbidojoaa
/- THE CELL 'sum', in the pinned program and in every row, IS THE sha256 OF THE DUMP (.gsa) THAT YtfkmpegbidojoaaProg.lean LOADS. Nothing in Lean hashes anything: it is a label: what it is worth is what the hold of that sum in a sandbox is worth. -/
noncomputable def Try.pinned : Pinned := { name := "ytfkmpegbidojoaa", sum := "d05f649f94ec2118b7e4627361ffeacdbce7f77add482e01d6d2517648e9a3e3", checked := Try.checked }
namespace Rows
def none {H : Type} : Left H := { results := [], args := [] }

/-- 'switchyardlaw18.MailPlays': WHATEVER THE INPUT: true; the input reads as it did. -/
def mailPlaysSpec : ChangeSpec := { name := "mailPlays", fn := fun _ => fun
  | [d1, d2] => { results := [.lit (.bool true)], args := [d1, d2] }
  | _ => none }
def mailPlaysRow : OpenClaim := { program := "ytfkmpegbidojoaa", sum := "d05f649f94ec2118b7e4627361ffeacdbce7f77add482e01d6d2517648e9a3e3", func := "switchyard/switchyardlaw18.MailPlays", spec := "mailPlays", apart := false }
def MailPlaysSaid : Prop := mailPlaysRow.holds Try.pinned (OpenSpec.ofChange mailPlaysSpec)

/-- ITS FALSE NEIGHBOUR: 'it returns false'. Refute it at one input. -/
def mailPlaysWrong : ChangeSpec := { name := "mailPlays", fn := fun _ => fun
  | [d1, d2] => { results := [.lit (.bool false)], args := [d1, d2] }
  | _ => none }
def MailPlaysWrongFalsely : Prop := mailPlaysRow.holds Try.pinned (OpenSpec.ofChange mailPlaysWrong)

/-- 'switchyardlaw19.DeadPuts': WHATEVER THE INPUT: true; the input reads as it did. -/
def deadPutsSpec : ChangeSpec := { name := "deadPuts", fn := fun _ => fun
  | [d1, d2, d3] => { results := [.lit (.bool true)], args := [d1, d2, d3] }
  | _ => none }
def deadPutsRow : OpenClaim := { program := "ytfkmpegbidojoaa", sum := "d05f649f94ec2118b7e4627361ffeacdbce7f77add482e01d6d2517648e9a3e3", func := "switchyard/switchyardlaw19.DeadPuts", spec := "deadPuts", unfollowed := true, recurses := true, apart := false }
def DeadPutsSaid : Prop := deadPutsRow.holds Try.pinned (OpenSpec.ofChange deadPutsSpec)

/-- ITS FALSE NEIGHBOUR: 'it returns false'. Refute it at one input. -/
def deadPutsWrong : ChangeSpec := { name := "deadPuts", fn := fun _ => fun
  | [d1, d2, d3] => { results := [.lit (.bool false)], args := [d1, d2, d3] }
  | _ => none }
def DeadPutsWrongFalsely : Prop := deadPutsRow.holds Try.pinned (OpenSpec.ofChange deadPutsWrong)

/-- 'switchyardlaw19.DeadOwn': WHATEVER THE INPUT: true; the input reads as it did. -/
def deadOwnSpec : ChangeSpec := { name := "deadOwn", fn := fun _ => fun
  | [d1, d2] => { results := [.lit (.bool true)], args := [d1, d2] }
  | _ => none }
def deadOwnRow : OpenClaim := { program := "ytfkmpegbidojoaa", sum := "d05f649f94ec2118b7e4627361ffeacdbce7f77add482e01d6d2517648e9a3e3", func := "switchyard/switchyardlaw19.DeadOwn", spec := "deadOwn", unfollowed := true, recurses := true, apart := false }
def DeadOwnSaid : Prop := deadOwnRow.holds Try.pinned (OpenSpec.ofChange deadOwnSpec)

/-- ITS FALSE NEIGHBOUR: 'it returns false'. Refute it at one input. -/
def deadOwnWrong : ChangeSpec := { name := "deadOwn", fn := fun _ => fun
  | [d1, d2] => { results := [.lit (.bool false)], args := [d1, d2] }
  | _ => none }
def DeadOwnWrongFalsely : Prop := deadOwnRow.holds Try.pinned (OpenSpec.ofChange deadOwnWrong)

/- THE SECOND FORM. 'bulk': how many values and letters a reading holds, each counted each time it is reached (what is shared counts as often as it is met; a slice's spare places count too). A statement '..UptoSaid' is the law's where the arguments, and the package variables that the reading takes, are together of bulk at most 1048576: NARROWER than '..Said'. Prove '..Said' where nothing that the law and all that it calls make is longer than what came in: it says more and counts as full. Else prove '..UptoSaid'. A law counts once. -/
mutual
def uptoBulk {H : Type} : DataW H → Nat
  | .lit (.string bytes) => bytes.length + 1
  | .lit _ => 1
  | .nil => 1
  | .ptr d => uptoBulk d + 1
  | .slice elems spare => uptoBulkAll elems + uptoBulkAll spare + 1
  | .agg parts => uptoBulkAll parts + 1
  | .iface _ d => uptoBulk d + 1
  | .map entries => uptoBulkEntries entries + 1
  | .held _ => 1
def uptoBulkAll {H : Type} : List (DataW H) → Nat
  | [] => 0
  | d :: r => uptoBulk d + uptoBulkAll r
def uptoBulkEntries {H : Type} : List (Lit × DataW H) → Nat
  | [] => 0
  | x :: r => uptoBulkEntry x + uptoBulkEntries r
def uptoBulkEntry {H : Type} : Lit × DataW H → Nat
  | (.string bytes, d) => bytes.length + uptoBulk d + 1
  | (_, d) => uptoBulk d + 1
 end
def uptoSmall : (H : Type) → List (DataW H) → Bool := fun _ ds => decide (uptoBulkAll ds ≤ 1048576)
def OpenSpec.upto (s : _root_.Go.ChangeSpec) : _root_.Go.OpenSpec := { _root_.Go.OpenSpec.ofChange s with cond := some uptoSmall }

/-- 'switchyardlaw18.MailPlays', WHERE WHAT IT READS IS OF BULK AT MOST 1048576: true; the input reads as it did. -/
def mailPlaysUptoRow : OpenClaim := { program := "ytfkmpegbidojoaa", sum := "d05f649f94ec2118b7e4627361ffeacdbce7f77add482e01d6d2517648e9a3e3", func := "switchyard/switchyardlaw18.MailPlays", spec := "mailPlays", apart := false, narrowed := true }
def MailPlaysUptoSaid : Prop := mailPlaysUptoRow.holds Try.pinned (OpenSpec.upto mailPlaysSpec)

/-- 'switchyardlaw19.DeadPuts', WHERE WHAT IT READS IS OF BULK AT MOST 1048576: true; the input reads as it did. -/
def deadPutsUptoRow : OpenClaim := { program := "ytfkmpegbidojoaa", sum := "d05f649f94ec2118b7e4627361ffeacdbce7f77add482e01d6d2517648e9a3e3", func := "switchyard/switchyardlaw19.DeadPuts", spec := "deadPuts", unfollowed := true, recurses := true, apart := false, narrowed := true }
def DeadPutsUptoSaid : Prop := deadPutsUptoRow.holds Try.pinned (OpenSpec.upto deadPutsSpec)

/-- 'switchyardlaw19.DeadOwn', WHERE WHAT IT READS IS OF BULK AT MOST 1048576: true; the input reads as it did. -/
def deadOwnUptoRow : OpenClaim := { program := "ytfkmpegbidojoaa", sum := "d05f649f94ec2118b7e4627361ffeacdbce7f77add482e01d6d2517648e9a3e3", func := "switchyard/switchyardlaw19.DeadOwn", spec := "deadOwn", unfollowed := true, recurses := true, apart := false, narrowed := true }
def DeadOwnUptoSaid : Prop := deadOwnUptoRow.holds Try.pinned (OpenSpec.upto deadOwnSpec)

end Rows
end Go.Proofs.Ytfkmpegbidojoaa
