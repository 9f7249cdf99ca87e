/-
  DERIVED. GIVEN WITH THE SEED: THE CARDS: each row of YtchjckdjkecjnaaGreatDoorRows.lean that lists a variable, with what it lists TIED to the program's text (the seventh form; the later family's looks); each row that meets fmt, with fmt's text TOLD by the authors' own Lean function (tested against real Go, not proved from fmt's source: count such statements apart). THE CARD IS WHAT COUNTS. Prove the row's statement (the work); the ties are given (YtchjckdjkecjnaaGreatDoorTie.lean); close each card by the builder's one call (the guide's Derived/Test/ToyasCard.lean, 'card_holds'). Laid BY PROGRAM, IN A SANDBOX (cutbox-door.mjs). By AI agents, Wed Nov 11 2026. No macro, syntax, notation, axiom, sorry.
-/
import Derived.Test.YtchjckdjkecjnaaGreatDoorRows
import GoSem.ClaimSeven
namespace Go.Proofs.YtchjckdjkecjnaaGreatDoor
namespace Rows

/-- THE TIED CARD OF 'switchyardlaw09.TypingOfs'. -/
def typingOfsCard : Claim7 := { stood := { row := typingOfsRow, standIns := [], harness := (true, "fa589785084dd8cc6410cc54c5ac7ecdf184a5480d80015fc665884a4ee43938"), looks := true }, kinds := [], alts := [], laidByText := true, laidKinds := [.data, .data, .data, .data], laidTests := true, laidLooks := .later }
def TypingOfsCardSaid : Prop := Claim7.holds Tryz.pinned (.plain (OpenSpec.ofChange typingOfsSpec)) typingOfsCard

/-- THE TIED CARD OF 'switchyardlaw10.EvalWholes'. -/
def evalWholesCard : Claim7 := { stood := { row := evalWholesRow, standIns := [], harness := (true, "fa589785084dd8cc6410cc54c5ac7ecdf184a5480d80015fc665884a4ee43938"), looks := true }, kinds := [], alts := [], laidByText := true, laidKinds := [.data, .data, .data, .data], laidTests := true, laidLooks := .later }
def EvalWholesCardSaid : Prop := Claim7.holds Tryz.pinned (.plain (OpenSpec.ofChange evalWholesSpec)) evalWholesCard

/-- THE TIED CARD OF 'switchyardlaw10.EvalTyped'. -/
def evalTypedCard : Claim7 := { stood := { row := evalTypedRow, standIns := [], harness := (true, "fa589785084dd8cc6410cc54c5ac7ecdf184a5480d80015fc665884a4ee43938"), looks := true }, kinds := [], alts := [], laidByText := true, laidKinds := [.data, .data, .data, .data], laidTests := true, laidLooks := .later }
def EvalTypedCardSaid : Prop := Claim7.holds Tryz.pinned (.plain (OpenSpec.ofChange evalTypedSpec)) evalTypedCard

/-- THE TIED CARD OF 'switchyardlaw10.EvalSelves'. -/
def evalSelvesCard : Claim7 := { stood := { row := evalSelvesRow, standIns := [], harness := (true, "fa589785084dd8cc6410cc54c5ac7ecdf184a5480d80015fc665884a4ee43938"), looks := true }, kinds := [], alts := [], laidByText := true, laidKinds := [.data, .data, .data, .data], laidTests := true, laidLooks := .later }
def EvalSelvesCardSaid : Prop := Claim7.holds Tryz.pinned (.plain (OpenSpec.ofChange evalSelvesSpec)) evalSelvesCard

/-- THE TIED CARD OF 'switchyardlaw10.EvalShort'. -/
def evalShortCard : Claim7 := { stood := { row := evalShortRow, standIns := [], harness := (true, "fa589785084dd8cc6410cc54c5ac7ecdf184a5480d80015fc665884a4ee43938"), looks := true }, kinds := [], alts := [], laidByText := true, laidKinds := [.data, .data, .data, .data], laidTests := true, laidLooks := .later }
def EvalShortCardSaid : Prop := Claim7.holds Tryz.pinned (.plain (OpenSpec.ofChange evalShortSpec)) evalShortCard

/-- THE TIED CARD OF 'switchyardlaw10.EvalOwn'. -/
def evalOwnCard : Claim7 := { stood := { row := evalOwnRow, standIns := [], harness := (true, "fa589785084dd8cc6410cc54c5ac7ecdf184a5480d80015fc665884a4ee43938"), looks := true }, kinds := [], alts := [], laidByText := true, laidKinds := [.data, .data, .data, .data], laidTests := true, laidLooks := .later }
def EvalOwnCardSaid : Prop := Claim7.holds Tryz.pinned (.plain (OpenSpec.ofChange evalOwnSpec)) evalOwnCard

/-- THE SECOND FORM's CARD OF 'switchyardlaw09.TypingOfs'. -/
def typingOfsUptoCard : Claim7 := { stood := { row := typingOfsUptoRow, standIns := [], harness := (true, "fa589785084dd8cc6410cc54c5ac7ecdf184a5480d80015fc665884a4ee43938"), looks := true }, kinds := [], alts := [], laidByText := true, laidKinds := [.data, .data, .data, .data], laidTests := true, laidLooks := .later }
def TypingOfsUptoCardSaid : Prop := Claim7.holds Tryz.pinned (.plain (OpenSpec.upto typingOfsSpec)) typingOfsUptoCard

/-- THE SECOND FORM's CARD OF 'switchyardlaw10.EvalWholes'. -/
def evalWholesUptoCard : Claim7 := { stood := { row := evalWholesUptoRow, standIns := [], harness := (true, "fa589785084dd8cc6410cc54c5ac7ecdf184a5480d80015fc665884a4ee43938"), looks := true }, kinds := [], alts := [], laidByText := true, laidKinds := [.data, .data, .data, .data], laidTests := true, laidLooks := .later }
def EvalWholesUptoCardSaid : Prop := Claim7.holds Tryz.pinned (.plain (OpenSpec.upto evalWholesSpec)) evalWholesUptoCard

/-- THE SECOND FORM's CARD OF 'switchyardlaw10.EvalTyped'. -/
def evalTypedUptoCard : Claim7 := { stood := { row := evalTypedUptoRow, standIns := [], harness := (true, "fa589785084dd8cc6410cc54c5ac7ecdf184a5480d80015fc665884a4ee43938"), looks := true }, kinds := [], alts := [], laidByText := true, laidKinds := [.data, .data, .data, .data], laidTests := true, laidLooks := .later }
def EvalTypedUptoCardSaid : Prop := Claim7.holds Tryz.pinned (.plain (OpenSpec.upto evalTypedSpec)) evalTypedUptoCard

/-- THE SECOND FORM's CARD OF 'switchyardlaw10.EvalSelves'. -/
def evalSelvesUptoCard : Claim7 := { stood := { row := evalSelvesUptoRow, standIns := [], harness := (true, "fa589785084dd8cc6410cc54c5ac7ecdf184a5480d80015fc665884a4ee43938"), looks := true }, kinds := [], alts := [], laidByText := true, laidKinds := [.data, .data, .data, .data], laidTests := true, laidLooks := .later }
def EvalSelvesUptoCardSaid : Prop := Claim7.holds Tryz.pinned (.plain (OpenSpec.upto evalSelvesSpec)) evalSelvesUptoCard

/-- THE SECOND FORM's CARD OF 'switchyardlaw10.EvalShort'. -/
def evalShortUptoCard : Claim7 := { stood := { row := evalShortUptoRow, standIns := [], harness := (true, "fa589785084dd8cc6410cc54c5ac7ecdf184a5480d80015fc665884a4ee43938"), looks := true }, kinds := [], alts := [], laidByText := true, laidKinds := [.data, .data, .data, .data], laidTests := true, laidLooks := .later }
def EvalShortUptoCardSaid : Prop := Claim7.holds Tryz.pinned (.plain (OpenSpec.upto evalShortSpec)) evalShortUptoCard

/-- THE SECOND FORM's CARD OF 'switchyardlaw10.EvalOwn'. -/
def evalOwnUptoCard : Claim7 := { stood := { row := evalOwnUptoRow, standIns := [], harness := (true, "fa589785084dd8cc6410cc54c5ac7ecdf184a5480d80015fc665884a4ee43938"), looks := true }, kinds := [], alts := [], laidByText := true, laidKinds := [.data, .data, .data, .data], laidTests := true, laidLooks := .later }
def EvalOwnUptoCardSaid : Prop := Claim7.holds Tryz.pinned (.plain (OpenSpec.upto evalOwnSpec)) evalOwnUptoCard
end Rows
end Go.Proofs.YtchjckdjkecjnaaGreatDoor
