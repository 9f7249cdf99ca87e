/-
  DERIVED. GIVEN WITH THE SEED: THE CARDS: each row of YtmjpmekjpbmieaaDoorRows.lean that lists a variable, with what it lists TIED to the program's text (the seventh form; the later family's looks); each row that meets fmt, with fmt's text TOLD by the authors' own Lean function (tested against real Go, not proved from fmt's source: count such statements apart). THE CARD IS WHAT COUNTS. Prove the row's statement (the work); the ties are given (YtmjpmekjpbmieaaDoorTie.lean); close each card by the builder's one call (the guide's Derived/Test/ToyasCard.lean, 'card_holds'). Laid BY PROGRAM, IN A SANDBOX (cutbox-door.mjs). By AI agents, Wed Nov 11 2026. No macro, syntax, notation, axiom, sorry.
-/
import Derived.Test.YtmjpmekjpbmieaaDoorRows
import GoSem.ClaimSeven
namespace Go.Proofs.YtmjpmekjpbmieaaDoor
namespace Rows

/-- THE TIED CARD OF 'switchyardlaw09.TypingOwn'. -/
def typingOwnCard : Claim7 := { stood := { row := typingOwnRow, standIns := [], harness := (true, "589739a2afa61eaf1cf0c79a0a856c874fa4d1794443e27c4f3710777a8a7838"), looks := false }, kinds := [], alts := [], laidByText := true, laidKinds := [.data, .data, .data, .data], laidTests := true, laidLooks := .later }
def TypingOwnCardSaid : Prop := Claim7.holds Tryd.pinned (.plain (OpenSpec.ofChange typingOwnSpec)) typingOwnCard

/-- THE TIED CARD OF 'switchyardlaw09.TypingMore'. -/
def typingMoreCard : Claim7 := { stood := { row := typingMoreRow, standIns := [], harness := (true, "589739a2afa61eaf1cf0c79a0a856c874fa4d1794443e27c4f3710777a8a7838"), looks := false }, kinds := [], alts := [], laidByText := true, laidKinds := [.data, .data, .data, .data], laidTests := true, laidLooks := .later }
def TypingMoreCardSaid : Prop := Claim7.holds Tryd.pinned (.plain (OpenSpec.ofChange typingMoreSpec)) typingMoreCard

/-- THE SECOND FORM's CARD OF 'switchyardlaw09.TypingOwn'. -/
def typingOwnUptoCard : Claim7 := { stood := { row := typingOwnUptoRow, standIns := [], harness := (true, "589739a2afa61eaf1cf0c79a0a856c874fa4d1794443e27c4f3710777a8a7838"), looks := false }, kinds := [], alts := [], laidByText := true, laidKinds := [.data, .data, .data, .data], laidTests := true, laidLooks := .later }
def TypingOwnUptoCardSaid : Prop := Claim7.holds Tryd.pinned (.plain (OpenSpec.upto typingOwnSpec)) typingOwnUptoCard

/-- THE SECOND FORM's CARD OF 'switchyardlaw09.TypingMore'. -/
def typingMoreUptoCard : Claim7 := { stood := { row := typingMoreUptoRow, standIns := [], harness := (true, "589739a2afa61eaf1cf0c79a0a856c874fa4d1794443e27c4f3710777a8a7838"), looks := false }, kinds := [], alts := [], laidByText := true, laidKinds := [.data, .data, .data, .data], laidTests := true, laidLooks := .later }
def TypingMoreUptoCardSaid : Prop := Claim7.holds Tryd.pinned (.plain (OpenSpec.upto typingMoreSpec)) typingMoreUptoCard
end Rows
end Go.Proofs.YtmjpmekjpbmieaaDoor
