/-
  DERIVED. GIVEN WITH THE SEED: THE CARDS: each row of YtjhkcdnfnmglhaaDoorRows.lean that lists a variable, with what it lists TIED to the program's text (the seventh form; the later family's looks); each row that meets fmt, with fmt's text TOLD by the authors' own Lean function (tested against real Go, not proved from fmt's source: count such statements apart). THE CARD IS WHAT COUNTS. Prove the row's statement (the work); the ties are given (YtjhkcdnfnmglhaaDoorTie.lean); close each card by the builder's one call (the guide's Derived/Test/ToyasCard.lean, 'card_holds'). Laid BY PROGRAM, IN A SANDBOX (cutbox-door.mjs). By AI agents, Wed Nov 11 2026. No macro, syntax, notation, axiom, sorry.
-/
import Derived.Test.YtjhkcdnfnmglhaaDoorRows
import GoSem.ClaimSeven
namespace Go.Proofs.YtjhkcdnfnmglhaaDoor
namespace Rows

/-- THE TIED CARD OF 'mothballlaw12.OverlayParts'. -/
def overlayPartsCard : Claim7 := { stood := { row := overlayPartsRow, standIns := [], harness := (true, "9a2f67febf83eb4d0741abec5f4b62b066c61146305203fab8b49bc56987377a"), looks := false }, kinds := [], alts := [], laidByText := true, laidKinds := [.data], laidTests := true, laidLooks := .later }
def OverlayPartsCardSaid : Prop := Claim7.holds Tryd.pinned (.plain (OpenSpec.ofChange overlayPartsSpec)) overlayPartsCard

/-- THE TIED CARD OF 'mothballlaw12.OverlayNever'. -/
def overlayNeverCard : Claim7 := { stood := { row := overlayNeverRow, standIns := [], harness := (true, "9a2f67febf83eb4d0741abec5f4b62b066c61146305203fab8b49bc56987377a"), looks := false }, kinds := [], alts := [], laidByText := true, laidKinds := [.data], laidTests := true, laidLooks := .later }
def OverlayNeverCardSaid : Prop := Claim7.holds Tryd.pinned (.plain (OpenSpec.ofChange overlayNeverSpec)) overlayNeverCard

/-- THE SECOND FORM's CARD OF 'mothballlaw12.OverlayParts'. -/
def overlayPartsUptoCard : Claim7 := { stood := { row := overlayPartsUptoRow, standIns := [], harness := (true, "9a2f67febf83eb4d0741abec5f4b62b066c61146305203fab8b49bc56987377a"), looks := false }, kinds := [], alts := [], laidByText := true, laidKinds := [.data], laidTests := true, laidLooks := .later }
def OverlayPartsUptoCardSaid : Prop := Claim7.holds Tryd.pinned (.plain (OpenSpec.upto overlayPartsSpec)) overlayPartsUptoCard

/-- THE SECOND FORM's CARD OF 'mothballlaw12.OverlayNever'. -/
def overlayNeverUptoCard : Claim7 := { stood := { row := overlayNeverUptoRow, standIns := [], harness := (true, "9a2f67febf83eb4d0741abec5f4b62b066c61146305203fab8b49bc56987377a"), looks := false }, kinds := [], alts := [], laidByText := true, laidKinds := [.data], laidTests := true, laidLooks := .later }
def OverlayNeverUptoCardSaid : Prop := Claim7.holds Tryd.pinned (.plain (OpenSpec.upto overlayNeverSpec)) overlayNeverUptoCard
end Rows
end Go.Proofs.YtjhkcdnfnmglhaaDoor
