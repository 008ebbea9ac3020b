/-
  DERIVED. GIVEN WITH THE SEED: THE CARDS: each row of YtjhkcdnfnmglhaaGreatDoorRows.lean that lists a variable, with what it lists TIED to the program's text (the seventh form; the later family's looks); each row that meets fmt, with fmt's text TOLD by the authors' own Lean function (tested against real Go, not proved from fmt's source: count such statements apart). THE CARD IS WHAT COUNTS. Prove the row's statement (the work); the ties are given (YtjhkcdnfnmglhaaGreatDoorTie.lean); close each card by the builder's one call (the guide's Derived/Test/ToyasCard.lean, 'card_holds'). Laid BY PROGRAM, IN A SANDBOX (cutbox-door.mjs). By AI agents, Wed Nov 11 2026. No macro, syntax, notation, axiom, sorry.
-/
import Derived.Test.YtjhkcdnfnmglhaaGreatDoorRows
import GoSem.ClaimSeven
namespace Go.Proofs.YtjhkcdnfnmglhaaGreatDoor
namespace Rows

/-- THE TIED CARD OF 'mothballlaw12.OverlayActs'. -/
def overlayActsCard : Claim7 := { stood := { row := overlayActsRow, standIns := [], harness := (true, "d9ae5b86278be27389bbba3f0cebc5736504a7ce9027d0b4c0c0f4d11c587eb5"), looks := false }, kinds := [], alts := [], laidByText := true, laidKinds := [.data], laidTests := true, laidLooks := .later }
def OverlayActsCardSaid : Prop := Claim7.holds Tryz.pinned (.plain (OpenSpec.ofChange overlayActsSpec)) overlayActsCard

/-- THE TIED CARD OF 'mothballlaw12.OverlayDiff'. -/
def overlayDiffCard : Claim7 := { stood := { row := overlayDiffRow, standIns := [], harness := (true, "d9ae5b86278be27389bbba3f0cebc5736504a7ce9027d0b4c0c0f4d11c587eb5"), looks := false }, kinds := [], alts := [], laidByText := true, laidKinds := [.data], laidTests := true, laidLooks := .later }
def OverlayDiffCardSaid : Prop := Claim7.holds Tryz.pinned (.plain (OpenSpec.ofChange overlayDiffSpec)) overlayDiffCard

/-- THE SECOND FORM's CARD OF 'mothballlaw12.OverlayActs'. -/
def overlayActsUptoCard : Claim7 := { stood := { row := overlayActsUptoRow, standIns := [], harness := (true, "d9ae5b86278be27389bbba3f0cebc5736504a7ce9027d0b4c0c0f4d11c587eb5"), looks := false }, kinds := [], alts := [], laidByText := true, laidKinds := [.data], laidTests := true, laidLooks := .later }
def OverlayActsUptoCardSaid : Prop := Claim7.holds Tryz.pinned (.plain (OpenSpec.upto overlayActsSpec)) overlayActsUptoCard

/-- THE SECOND FORM's CARD OF 'mothballlaw12.OverlayDiff'. -/
def overlayDiffUptoCard : Claim7 := { stood := { row := overlayDiffUptoRow, standIns := [], harness := (true, "d9ae5b86278be27389bbba3f0cebc5736504a7ce9027d0b4c0c0f4d11c587eb5"), looks := false }, kinds := [], alts := [], laidByText := true, laidKinds := [.data], laidTests := true, laidLooks := .later }
def OverlayDiffUptoCardSaid : Prop := Claim7.holds Tryz.pinned (.plain (OpenSpec.upto overlayDiffSpec)) overlayDiffUptoCard
end Rows
end Go.Proofs.YtjhkcdnfnmglhaaGreatDoor
