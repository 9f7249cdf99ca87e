/-
  No cell of these rows narrows 'for every input' (looked for: loops, veiled, ifaces, maps, wideKeys, modest, calm, conditions, laid).
  DERIVED. THE GIVEN ROWS OF THIS SEAT. 3 by the template 'for every input the law returns true; each argument reads behind the call as it read before'; 0 by the template 'total and deterministic' (their statements: YtopaaokclfnhdaaTotals.lean).
  GIVEN WITH THE SEED: the statements are not yours to turn. If you find one false, say at which input.
  Laid BY PROGRAM, IN A SANDBOX (cutbox-rows.mjs): the forced cells as the released guide's own fill.sh prints them over the translation 49f85208bdce7f4c… (all of the seat's roots in one cut). By AI agents, Wed Nov 11 2026. No macro, syntax, notation, axiom, sorry.
-/
import Derived.Test.YtopaaokclfnhdaaChecked
import GoSem.Claim
import GoSem.ClaimJoined
import GoSem.ClaimMapViews
import Derived.JoinedTies
import Derived.KernelRfl
namespace Go.Proofs.Ytopaaokclfnhdaa
/- THE CELL 'sum', in the pinned program and in every row, IS THE sha256 OF THE DUMP (.gsa) THAT YtopaaokclfnhdaaProg.lean LOADS. Nothing in Lean hashes anything: it is a label: what it is worth is what the hold of that sum in a sandbox is worth. -/
noncomputable def Try.pinned : Pinned := { name := "ytopaaokclfnhdaa", sum := "49f85208bdce7f4c945be47493dab93cc8be6321c750dfe2a693b9980c0b58df", checked := Try.checked }
namespace Rows
def none {H : Type} : Left H := { results := [], args := [] }

/-- 'switchyardlaw20.SeenAdds': WHATEVER THE INPUT: true; the input reads as it did. -/
def seenAddsSpec : ChangeSpec := { name := "seenAdds", fn := fun _ => fun
  | [d1, d2, d3] => { results := [.lit (.bool true)], args := [d1, d2, d3] }
  | _ => none }
def seenAddsRow : OpenClaim := { program := "ytopaaokclfnhdaa", sum := "49f85208bdce7f4c945be47493dab93cc8be6321c750dfe2a693b9980c0b58df", func := "switchyard/switchyardlaw20.SeenAdds", spec := "seenAdds", apart := false }
def SeenAddsSaid : Prop := seenAddsRow.holds Try.pinned (OpenSpec.ofChange seenAddsSpec)

/-- ITS FALSE NEIGHBOUR: 'it returns false'. Refute it at one input. -/
def seenAddsWrong : ChangeSpec := { name := "seenAdds", fn := fun _ => fun
  | [d1, d2, d3] => { results := [.lit (.bool false)], args := [d1, d2, d3] }
  | _ => none }
def SeenAddsWrongFalsely : Prop := seenAddsRow.holds Try.pinned (OpenSpec.ofChange seenAddsWrong)

/-- 'switchyardlaw20.SeenGrows': WHATEVER THE INPUT: true; the input reads as it did. -/
def seenGrowsSpec : ChangeSpec := { name := "seenGrows", fn := fun _ => fun
  | [d1, d2] => { results := [.lit (.bool true)], args := [d1, d2] }
  | _ => none }
def seenGrowsRow : OpenClaim := { program := "ytopaaokclfnhdaa", sum := "49f85208bdce7f4c945be47493dab93cc8be6321c750dfe2a693b9980c0b58df", func := "switchyard/switchyardlaw20.SeenGrows", spec := "seenGrows", apart := false }
def SeenGrowsSaid : Prop := seenGrowsRow.holds Try.pinned (OpenSpec.ofChange seenGrowsSpec)

/-- ITS FALSE NEIGHBOUR: 'it returns false'. Refute it at one input. -/
def seenGrowsWrong : ChangeSpec := { name := "seenGrows", fn := fun _ => fun
  | [d1, d2] => { results := [.lit (.bool false)], args := [d1, d2] }
  | _ => none }
def SeenGrowsWrongFalsely : Prop := seenGrowsRow.holds Try.pinned (OpenSpec.ofChange seenGrowsWrong)

/-- 'switchyardlaw20.SeenAnyhow': WHATEVER THE INPUT: true; the input reads as it did. -/
def seenAnyhowSpec : ChangeSpec := { name := "seenAnyhow", fn := fun _ => fun
  | [d] => { results := [.lit (.bool true)], args := [d] }
  | _ => none }
def seenAnyhowRow : OpenClaim := { program := "ytopaaokclfnhdaa", sum := "49f85208bdce7f4c945be47493dab93cc8be6321c750dfe2a693b9980c0b58df", func := "switchyard/switchyardlaw20.SeenAnyhow", spec := "seenAnyhow", apart := false }
def SeenAnyhowSaid : Prop := seenAnyhowRow.holds Try.pinned (OpenSpec.ofChange seenAnyhowSpec)

/-- ITS FALSE NEIGHBOUR: 'it returns false'. Refute it at one input. -/
def seenAnyhowWrong : ChangeSpec := { name := "seenAnyhow", fn := fun _ => fun
  | [d] => { results := [.lit (.bool false)], args := [d] }
  | _ => none }
def SeenAnyhowWrongFalsely : Prop := seenAnyhowRow.holds Try.pinned (OpenSpec.ofChange seenAnyhowWrong)

/- THE SECOND FORM. 'bulk': how many values and letters a reading holds, each counted each time it is reached (what is shared counts as often as it is met; a slice's spare places count too). A statement '..UptoSaid' is the law's where the arguments, and the package variables that the reading takes, are together of bulk at most 1048576: NARROWER than '..Said'. Prove '..Said' where nothing that the law and all that it calls make is longer than what came in: it says more and counts as full. Else prove '..UptoSaid'. A law counts once. -/
mutual
def uptoBulk {H : Type} : DataW H → Nat
  | .lit (.string bytes) => bytes.length + 1
  | .lit _ => 1
  | .nil => 1
  | .ptr d => uptoBulk d + 1
  | .slice elems spare => uptoBulkAll elems + uptoBulkAll spare + 1
  | .agg parts => uptoBulkAll parts + 1
  | .iface _ d => uptoBulk d + 1
  | .map entries => uptoBulkEntries entries + 1
  | .held _ => 1
def uptoBulkAll {H : Type} : List (DataW H) → Nat
  | [] => 0
  | d :: r => uptoBulk d + uptoBulkAll r
def uptoBulkEntries {H : Type} : List (Lit × DataW H) → Nat
  | [] => 0
  | x :: r => uptoBulkEntry x + uptoBulkEntries r
def uptoBulkEntry {H : Type} : Lit × DataW H → Nat
  | (.string bytes, d) => bytes.length + uptoBulk d + 1
  | (_, d) => uptoBulk d + 1
 end
def uptoSmall : (H : Type) → List (DataW H) → Bool := fun _ ds => decide (uptoBulkAll ds ≤ 1048576)
def OpenSpec.upto (s : _root_.Go.ChangeSpec) : _root_.Go.OpenSpec := { _root_.Go.OpenSpec.ofChange s with cond := some uptoSmall }

/-- 'switchyardlaw20.SeenAdds', WHERE WHAT IT READS IS OF BULK AT MOST 1048576: true; the input reads as it did. -/
def seenAddsUptoRow : OpenClaim := { program := "ytopaaokclfnhdaa", sum := "49f85208bdce7f4c945be47493dab93cc8be6321c750dfe2a693b9980c0b58df", func := "switchyard/switchyardlaw20.SeenAdds", spec := "seenAdds", apart := false, narrowed := true }
def SeenAddsUptoSaid : Prop := seenAddsUptoRow.holds Try.pinned (OpenSpec.upto seenAddsSpec)

/-- 'switchyardlaw20.SeenGrows', WHERE WHAT IT READS IS OF BULK AT MOST 1048576: true; the input reads as it did. -/
def seenGrowsUptoRow : OpenClaim := { program := "ytopaaokclfnhdaa", sum := "49f85208bdce7f4c945be47493dab93cc8be6321c750dfe2a693b9980c0b58df", func := "switchyard/switchyardlaw20.SeenGrows", spec := "seenGrows", apart := false, narrowed := true }
def SeenGrowsUptoSaid : Prop := seenGrowsUptoRow.holds Try.pinned (OpenSpec.upto seenGrowsSpec)

/-- 'switchyardlaw20.SeenAnyhow', WHERE WHAT IT READS IS OF BULK AT MOST 1048576: true; the input reads as it did. -/
def seenAnyhowUptoRow : OpenClaim := { program := "ytopaaokclfnhdaa", sum := "49f85208bdce7f4c945be47493dab93cc8be6321c750dfe2a693b9980c0b58df", func := "switchyard/switchyardlaw20.SeenAnyhow", spec := "seenAnyhow", apart := false, narrowed := true }
def SeenAnyhowUptoSaid : Prop := seenAnyhowUptoRow.holds Try.pinned (OpenSpec.upto seenAnyhowSpec)

end Rows
end Go.Proofs.Ytopaaokclfnhdaa
