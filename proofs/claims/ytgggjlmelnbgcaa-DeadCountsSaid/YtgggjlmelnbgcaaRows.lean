/-
  No cell of these rows narrows 'for every input' (looked for: loops, veiled, ifaces, maps, wideKeys, modest, calm, conditions, laid).
  DERIVED. THE GIVEN ROWS OF THIS SEAT. 8 by the template 'for every input the law returns true; each argument reads behind the call as it read before'; 0 by the template 'total and deterministic' (their statements: YtgggjlmelnbgcaaTotals.lean).
  GIVEN WITH THE SEED: the statements are not yours to turn. If you find one false, say at which input.
  Laid BY PROGRAM, IN A SANDBOX (cutbox-rows.mjs): the forced cells as the released guide's own fill.sh prints them over the translation 203965dd39c38237… (all of the seat's roots in one cut). By AI agents, Wed Nov 11 2026. No macro, syntax, notation, axiom, sorry.
-/
import Derived.Test.YtgggjlmelnbgcaaChecked
import GoSem.Claim
import GoSem.ClaimJoined
import GoSem.ClaimMapViews
import Derived.JoinedTies
import Derived.KernelRfl
namespace Go.Proofs.Ytgggjlmelnbgcaa
/- THE CELL 'sum', in the pinned program and in every row, IS THE sha256 OF THE DUMP (.gsa) THAT YtgggjlmelnbgcaaProg.lean LOADS. Nothing in Lean hashes anything: it is a label: what it is worth is what the hold of that sum in a sandbox is worth. -/
noncomputable def Try.pinned : Pinned := { name := "ytgggjlmelnbgcaa", sum := "203965dd39c382378b13e35b208237b97edfe670c0faacdca0c53c23df033529", checked := Try.checked }
namespace Rows
def none {H : Type} : Left H := { results := [], args := [] }

/-- 'switchyardlaw18.MailPlays': WHATEVER THE INPUT: true; the input reads as it did. -/
def mailPlaysSpec : ChangeSpec := { name := "mailPlays", fn := fun _ => fun
  | [d1, d2] => { results := [.lit (.bool true)], args := [d1, d2] }
  | _ => none }
def mailPlaysRow : OpenClaim := { program := "ytgggjlmelnbgcaa", sum := "203965dd39c382378b13e35b208237b97edfe670c0faacdca0c53c23df033529", func := "switchyard/switchyardlaw18.MailPlays", spec := "mailPlays", apart := false }
def MailPlaysSaid : Prop := mailPlaysRow.holds Try.pinned (OpenSpec.ofChange mailPlaysSpec)

/-- ITS FALSE NEIGHBOUR: 'it returns false'. Refute it at one input. -/
def mailPlaysWrong : ChangeSpec := { name := "mailPlays", fn := fun _ => fun
  | [d1, d2] => { results := [.lit (.bool false)], args := [d1, d2] }
  | _ => none }
def MailPlaysWrongFalsely : Prop := mailPlaysRow.holds Try.pinned (OpenSpec.ofChange mailPlaysWrong)

/-- 'switchyardlaw18.MailFills': WHATEVER THE INPUT: true; the input reads as it did. -/
def mailFillsSpec : ChangeSpec := { name := "mailFills", fn := fun _ => fun
  | [d1, d2] => { results := [.lit (.bool true)], args := [d1, d2] }
  | _ => none }
def mailFillsRow : OpenClaim := { program := "ytgggjlmelnbgcaa", sum := "203965dd39c382378b13e35b208237b97edfe670c0faacdca0c53c23df033529", func := "switchyard/switchyardlaw18.MailFills", spec := "mailFills", apart := false }
def MailFillsSaid : Prop := mailFillsRow.holds Try.pinned (OpenSpec.ofChange mailFillsSpec)

/-- ITS FALSE NEIGHBOUR: 'it returns false'. Refute it at one input. -/
def mailFillsWrong : ChangeSpec := { name := "mailFills", fn := fun _ => fun
  | [d1, d2] => { results := [.lit (.bool false)], args := [d1, d2] }
  | _ => none }
def MailFillsWrongFalsely : Prop := mailFillsRow.holds Try.pinned (OpenSpec.ofChange mailFillsWrong)

/-- 'switchyardlaw18.MailOrder': WHATEVER THE INPUT: true; the input reads as it did. -/
def mailOrderSpec : ChangeSpec := { name := "mailOrder", fn := fun _ => fun
  | [d] => { results := [.lit (.bool true)], args := [d] }
  | _ => none }
def mailOrderRow : OpenClaim := { program := "ytgggjlmelnbgcaa", sum := "203965dd39c382378b13e35b208237b97edfe670c0faacdca0c53c23df033529", func := "switchyard/switchyardlaw18.MailOrder", spec := "mailOrder", apart := false }
def MailOrderSaid : Prop := mailOrderRow.holds Try.pinned (OpenSpec.ofChange mailOrderSpec)

/-- ITS FALSE NEIGHBOUR: 'it returns false'. Refute it at one input. -/
def mailOrderWrong : ChangeSpec := { name := "mailOrder", fn := fun _ => fun
  | [d] => { results := [.lit (.bool false)], args := [d] }
  | _ => none }
def MailOrderWrongFalsely : Prop := mailOrderRow.holds Try.pinned (OpenSpec.ofChange mailOrderWrong)

/-- 'switchyardlaw18.MailNil': WHATEVER THE INPUT: true; the input reads as it did. -/
def mailNilSpec : ChangeSpec := { name := "mailNil", fn := fun _ => fun
  | [] => { results := [.lit (.bool true)], args := [] }
  | _ => none }
def mailNilRow : OpenClaim := { program := "ytgggjlmelnbgcaa", sum := "203965dd39c382378b13e35b208237b97edfe670c0faacdca0c53c23df033529", func := "switchyard/switchyardlaw18.MailNil", spec := "mailNil", apart := false }
def MailNilSaid : Prop := mailNilRow.holds Try.pinned (OpenSpec.ofChange mailNilSpec)

/-- ITS FALSE NEIGHBOUR: 'it returns false'. Refute it at one input. -/
def mailNilWrong : ChangeSpec := { name := "mailNil", fn := fun _ => fun
  | [] => { results := [.lit (.bool false)], args := [] }
  | _ => none }
def MailNilWrongFalsely : Prop := mailNilRow.holds Try.pinned (OpenSpec.ofChange mailNilWrong)

/-- 'switchyardlaw19.DeadPuts': WHATEVER THE INPUT: true; the input reads as it did. -/
def deadPutsSpec : ChangeSpec := { name := "deadPuts", fn := fun _ => fun
  | [d1, d2, d3] => { results := [.lit (.bool true)], args := [d1, d2, d3] }
  | _ => none }
def deadPutsRow : OpenClaim := { program := "ytgggjlmelnbgcaa", sum := "203965dd39c382378b13e35b208237b97edfe670c0faacdca0c53c23df033529", func := "switchyard/switchyardlaw19.DeadPuts", spec := "deadPuts", unfollowed := true, recurses := true, apart := false }
def DeadPutsSaid : Prop := deadPutsRow.holds Try.pinned (OpenSpec.ofChange deadPutsSpec)

/-- ITS FALSE NEIGHBOUR: 'it returns false'. Refute it at one input. -/
def deadPutsWrong : ChangeSpec := { name := "deadPuts", fn := fun _ => fun
  | [d1, d2, d3] => { results := [.lit (.bool false)], args := [d1, d2, d3] }
  | _ => none }
def DeadPutsWrongFalsely : Prop := deadPutsRow.holds Try.pinned (OpenSpec.ofChange deadPutsWrong)

/-- 'switchyardlaw19.DeadBack': WHATEVER THE INPUT: true; the input reads as it did. -/
def deadBackSpec : ChangeSpec := { name := "deadBack", fn := fun _ => fun
  | [d1, d2] => { results := [.lit (.bool true)], args := [d1, d2] }
  | _ => none }
def deadBackRow : OpenClaim := { program := "ytgggjlmelnbgcaa", sum := "203965dd39c382378b13e35b208237b97edfe670c0faacdca0c53c23df033529", func := "switchyard/switchyardlaw19.DeadBack", spec := "deadBack", unfollowed := true, recurses := true, apart := false }
def DeadBackSaid : Prop := deadBackRow.holds Try.pinned (OpenSpec.ofChange deadBackSpec)

/-- ITS FALSE NEIGHBOUR: 'it returns false'. Refute it at one input. -/
def deadBackWrong : ChangeSpec := { name := "deadBack", fn := fun _ => fun
  | [d1, d2] => { results := [.lit (.bool false)], args := [d1, d2] }
  | _ => none }
def DeadBackWrongFalsely : Prop := deadBackRow.holds Try.pinned (OpenSpec.ofChange deadBackWrong)

/-- 'switchyardlaw19.DeadOwn': WHATEVER THE INPUT: true; the input reads as it did. -/
def deadOwnSpec : ChangeSpec := { name := "deadOwn", fn := fun _ => fun
  | [d1, d2] => { results := [.lit (.bool true)], args := [d1, d2] }
  | _ => none }
def deadOwnRow : OpenClaim := { program := "ytgggjlmelnbgcaa", sum := "203965dd39c382378b13e35b208237b97edfe670c0faacdca0c53c23df033529", func := "switchyard/switchyardlaw19.DeadOwn", spec := "deadOwn", unfollowed := true, recurses := true, apart := false }
def DeadOwnSaid : Prop := deadOwnRow.holds Try.pinned (OpenSpec.ofChange deadOwnSpec)

/-- ITS FALSE NEIGHBOUR: 'it returns false'. Refute it at one input. -/
def deadOwnWrong : ChangeSpec := { name := "deadOwn", fn := fun _ => fun
  | [d1, d2] => { results := [.lit (.bool false)], args := [d1, d2] }
  | _ => none }
def DeadOwnWrongFalsely : Prop := deadOwnRow.holds Try.pinned (OpenSpec.ofChange deadOwnWrong)

/-- 'switchyardlaw19.DeadCounts': WHATEVER THE INPUT: true; the input reads as it did. -/
def deadCountsSpec : ChangeSpec := { name := "deadCounts", fn := fun _ => fun
  | [d1, d2] => { results := [.lit (.bool true)], args := [d1, d2] }
  | _ => none }
def deadCountsRow : OpenClaim := { program := "ytgggjlmelnbgcaa", sum := "203965dd39c382378b13e35b208237b97edfe670c0faacdca0c53c23df033529", func := "switchyard/switchyardlaw19.DeadCounts", spec := "deadCounts", unfollowed := true, recurses := true, apart := false }
def DeadCountsSaid : Prop := deadCountsRow.holds Try.pinned (OpenSpec.ofChange deadCountsSpec)

/-- ITS FALSE NEIGHBOUR: 'it returns false'. Refute it at one input. -/
def deadCountsWrong : ChangeSpec := { name := "deadCounts", fn := fun _ => fun
  | [d1, d2] => { results := [.lit (.bool false)], args := [d1, d2] }
  | _ => none }
def DeadCountsWrongFalsely : Prop := deadCountsRow.holds Try.pinned (OpenSpec.ofChange deadCountsWrong)

/- THE SECOND FORM. 'bulk': how many values and letters a reading holds, each counted each time it is reached (what is shared counts as often as it is met; a slice's spare places count too). A statement '..UptoSaid' is the law's where the arguments, and the package variables that the reading takes, are together of bulk at most 1048576: NARROWER than '..Said'. Prove '..Said' where nothing that the law and all that it calls make is longer than what came in: it says more and counts as full. Else prove '..UptoSaid'. A law counts once. -/
mutual
def uptoBulk {H : Type} : DataW H → Nat
  | .lit (.string bytes) => bytes.length + 1
  | .lit _ => 1
  | .nil => 1
  | .ptr d => uptoBulk d + 1
  | .slice elems spare => uptoBulkAll elems + uptoBulkAll spare + 1
  | .agg parts => uptoBulkAll parts + 1
  | .iface _ d => uptoBulk d + 1
  | .map entries => uptoBulkEntries entries + 1
  | .held _ => 1
def uptoBulkAll {H : Type} : List (DataW H) → Nat
  | [] => 0
  | d :: r => uptoBulk d + uptoBulkAll r
def uptoBulkEntries {H : Type} : List (Lit × DataW H) → Nat
  | [] => 0
  | x :: r => uptoBulkEntry x + uptoBulkEntries r
def uptoBulkEntry {H : Type} : Lit × DataW H → Nat
  | (.string bytes, d) => bytes.length + uptoBulk d + 1
  | (_, d) => uptoBulk d + 1
 end
def uptoSmall : (H : Type) → List (DataW H) → Bool := fun _ ds => decide (uptoBulkAll ds ≤ 1048576)
def OpenSpec.upto (s : _root_.Go.ChangeSpec) : _root_.Go.OpenSpec := { _root_.Go.OpenSpec.ofChange s with cond := some uptoSmall }

/-- 'switchyardlaw18.MailPlays', WHERE WHAT IT READS IS OF BULK AT MOST 1048576: true; the input reads as it did. -/
def mailPlaysUptoRow : OpenClaim := { program := "ytgggjlmelnbgcaa", sum := "203965dd39c382378b13e35b208237b97edfe670c0faacdca0c53c23df033529", func := "switchyard/switchyardlaw18.MailPlays", spec := "mailPlays", apart := false, narrowed := true }
def MailPlaysUptoSaid : Prop := mailPlaysUptoRow.holds Try.pinned (OpenSpec.upto mailPlaysSpec)

/-- 'switchyardlaw18.MailFills', WHERE WHAT IT READS IS OF BULK AT MOST 1048576: true; the input reads as it did. -/
def mailFillsUptoRow : OpenClaim := { program := "ytgggjlmelnbgcaa", sum := "203965dd39c382378b13e35b208237b97edfe670c0faacdca0c53c23df033529", func := "switchyard/switchyardlaw18.MailFills", spec := "mailFills", apart := false, narrowed := true }
def MailFillsUptoSaid : Prop := mailFillsUptoRow.holds Try.pinned (OpenSpec.upto mailFillsSpec)

/-- 'switchyardlaw18.MailOrder', WHERE WHAT IT READS IS OF BULK AT MOST 1048576: true; the input reads as it did. -/
def mailOrderUptoRow : OpenClaim := { program := "ytgggjlmelnbgcaa", sum := "203965dd39c382378b13e35b208237b97edfe670c0faacdca0c53c23df033529", func := "switchyard/switchyardlaw18.MailOrder", spec := "mailOrder", apart := false, narrowed := true }
def MailOrderUptoSaid : Prop := mailOrderUptoRow.holds Try.pinned (OpenSpec.upto mailOrderSpec)

/-- 'switchyardlaw18.MailNil', WHERE WHAT IT READS IS OF BULK AT MOST 1048576: true; the input reads as it did. -/
def mailNilUptoRow : OpenClaim := { program := "ytgggjlmelnbgcaa", sum := "203965dd39c382378b13e35b208237b97edfe670c0faacdca0c53c23df033529", func := "switchyard/switchyardlaw18.MailNil", spec := "mailNil", apart := false, narrowed := true }
def MailNilUptoSaid : Prop := mailNilUptoRow.holds Try.pinned (OpenSpec.upto mailNilSpec)

/-- 'switchyardlaw19.DeadPuts', WHERE WHAT IT READS IS OF BULK AT MOST 1048576: true; the input reads as it did. -/
def deadPutsUptoRow : OpenClaim := { program := "ytgggjlmelnbgcaa", sum := "203965dd39c382378b13e35b208237b97edfe670c0faacdca0c53c23df033529", func := "switchyard/switchyardlaw19.DeadPuts", spec := "deadPuts", unfollowed := true, recurses := true, apart := false, narrowed := true }
def DeadPutsUptoSaid : Prop := deadPutsUptoRow.holds Try.pinned (OpenSpec.upto deadPutsSpec)

/-- 'switchyardlaw19.DeadBack', WHERE WHAT IT READS IS OF BULK AT MOST 1048576: true; the input reads as it did. -/
def deadBackUptoRow : OpenClaim := { program := "ytgggjlmelnbgcaa", sum := "203965dd39c382378b13e35b208237b97edfe670c0faacdca0c53c23df033529", func := "switchyard/switchyardlaw19.DeadBack", spec := "deadBack", unfollowed := true, recurses := true, apart := false, narrowed := true }
def DeadBackUptoSaid : Prop := deadBackUptoRow.holds Try.pinned (OpenSpec.upto deadBackSpec)

/-- 'switchyardlaw19.DeadOwn', WHERE WHAT IT READS IS OF BULK AT MOST 1048576: true; the input reads as it did. -/
def deadOwnUptoRow : OpenClaim := { program := "ytgggjlmelnbgcaa", sum := "203965dd39c382378b13e35b208237b97edfe670c0faacdca0c53c23df033529", func := "switchyard/switchyardlaw19.DeadOwn", spec := "deadOwn", unfollowed := true, recurses := true, apart := false, narrowed := true }
def DeadOwnUptoSaid : Prop := deadOwnUptoRow.holds Try.pinned (OpenSpec.upto deadOwnSpec)

/-- 'switchyardlaw19.DeadCounts', WHERE WHAT IT READS IS OF BULK AT MOST 1048576: true; the input reads as it did. -/
def deadCountsUptoRow : OpenClaim := { program := "ytgggjlmelnbgcaa", sum := "203965dd39c382378b13e35b208237b97edfe670c0faacdca0c53c23df033529", func := "switchyard/switchyardlaw19.DeadCounts", spec := "deadCounts", unfollowed := true, recurses := true, apart := false, narrowed := true }
def DeadCountsUptoSaid : Prop := deadCountsUptoRow.holds Try.pinned (OpenSpec.upto deadCountsSpec)

end Rows
end Go.Proofs.Ytgggjlmelnbgcaa
