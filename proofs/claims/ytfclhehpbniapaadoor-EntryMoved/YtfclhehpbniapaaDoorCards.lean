/-
  DERIVED. GIVEN WITH THE SEED: THE CARDS: each row of YtfclhehpbniapaaDoorRows.lean that lists a variable, with what it lists TIED to the program's text (the seventh form; the later family's looks); each row that meets fmt, with fmt's text TOLD by the authors' own Lean function (tested against real Go, not proved from fmt's source: count such statements apart). THE CARD IS WHAT COUNTS. Prove the row's statement (the work); the ties are given (YtfclhehpbniapaaDoorTie.lean); close each card by the builder's one call (the guide's Derived/Test/ToyasCard.lean, 'card_holds'). Laid BY PROGRAM, IN A SANDBOX (cutbox-door.mjs). By AI agents, Wed Nov 11 2026. No macro, syntax, notation, axiom, sorry.
-/
import Derived.Test.YtfclhehpbniapaaDoorRows
import GoSem.ClaimSeven
namespace Go.Proofs.YtfclhehpbniapaaDoor
namespace Rows

/-- THE TIED CARD OF 'mothballlaw11.EntrySums'. -/
def entrySumsCard : Claim7 := { stood := { row := entrySumsRow, standIns := [], harness := (true, "e9398c965a2482d141baec361d991900acbc2e002c30cdf0a6c68a4f774b8a8a"), looks := false }, kinds := [], alts := [], laidByText := true, laidKinds := [.data], laidTests := true, laidLooks := .later }
def EntrySumsCardSaid : Prop := Claim7.holds Tryd.pinned (.plain (OpenSpec.ofChange entrySumsSpec)) entrySumsCard

/-- THE TIED CARD OF 'mothballlaw11.EntryMoved'. -/
def entryMovedCard : Claim7 := { stood := { row := entryMovedRow, standIns := [], harness := (true, "e9398c965a2482d141baec361d991900acbc2e002c30cdf0a6c68a4f774b8a8a"), looks := false }, kinds := [], alts := [], laidByText := true, laidKinds := [.data], laidTests := true, laidLooks := .later }
def EntryMovedCardSaid : Prop := Claim7.holds Tryd.pinned (.plain (OpenSpec.ofChange entryMovedSpec)) entryMovedCard

/-- THE SECOND FORM's CARD OF 'mothballlaw11.EntrySums'. -/
def entrySumsUptoCard : Claim7 := { stood := { row := entrySumsUptoRow, standIns := [], harness := (true, "e9398c965a2482d141baec361d991900acbc2e002c30cdf0a6c68a4f774b8a8a"), looks := false }, kinds := [], alts := [], laidByText := true, laidKinds := [.data], laidTests := true, laidLooks := .later }
def EntrySumsUptoCardSaid : Prop := Claim7.holds Tryd.pinned (.plain (OpenSpec.upto entrySumsSpec)) entrySumsUptoCard

/-- THE SECOND FORM's CARD OF 'mothballlaw11.EntryMoved'. -/
def entryMovedUptoCard : Claim7 := { stood := { row := entryMovedUptoRow, standIns := [], harness := (true, "e9398c965a2482d141baec361d991900acbc2e002c30cdf0a6c68a4f774b8a8a"), looks := false }, kinds := [], alts := [], laidByText := true, laidKinds := [.data], laidTests := true, laidLooks := .later }
def EntryMovedUptoCardSaid : Prop := Claim7.holds Tryd.pinned (.plain (OpenSpec.upto entryMovedSpec)) entryMovedUptoCard
end Rows
end Go.Proofs.YtfclhehpbniapaaDoor
