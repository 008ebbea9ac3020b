/-
  DERIVED. GIVEN WITH THE SEED: THE CARDS: each row of YthpodknhidgedaaDoorRows.lean that lists a variable, with what it lists TIED to the program's text (the seventh form; the later family's looks); each row that meets fmt, with fmt's text TOLD by the authors' own Lean function (tested against real Go, not proved from fmt's source: count such statements apart). THE CARD IS WHAT COUNTS. Prove the row's statement (the work); the ties are given (YthpodknhidgedaaDoorTie.lean); close each card by the builder's one call (the guide's Derived/Test/ToyasCard.lean, 'card_holds'). Laid BY PROGRAM, IN A SANDBOX (cutbox-door.mjs). By AI agents, Wed Nov 11 2026. No macro, syntax, notation, axiom, sorry.
-/
import Derived.Test.YthpodknhidgedaaDoorRows
import GoSem.ClaimSeven
namespace Go.Proofs.YthpodknhidgedaaDoor
namespace Rows

/-- THE TIED CARD OF 'mothballlaw09.SlotsActs'. -/
def slotsActsCard : Claim7 := { stood := { row := slotsActsRow, standIns := [], harness := (true, "8883cb3be50ee81fa1d07ef68dd25168a29f74ffb7a462bfbba9591a003fc633"), looks := false }, kinds := [], alts := [], laidByText := true, laidKinds := [.data], laidTests := true, laidLooks := .later }
def SlotsActsCardSaid : Prop := Claim7.holds Tryd.pinned (.plain (OpenSpec.ofChange slotsActsSpec)) slotsActsCard

/-- THE TIED CARD OF 'mothballlaw09.SlotsOnce'. -/
def slotsOnceCard : Claim7 := { stood := { row := slotsOnceRow, standIns := [], harness := (true, "8883cb3be50ee81fa1d07ef68dd25168a29f74ffb7a462bfbba9591a003fc633"), looks := false }, kinds := [], alts := [], laidByText := true, laidKinds := [.data], laidTests := true, laidLooks := .later }
def SlotsOnceCardSaid : Prop := Claim7.holds Tryd.pinned (.plain (OpenSpec.ofChange slotsOnceSpec)) slotsOnceCard

/-- THE TIED CARD OF 'mothballlaw09.SlotsFew'. -/
def slotsFewCard : Claim7 := { stood := { row := slotsFewRow, standIns := [], harness := (true, "8883cb3be50ee81fa1d07ef68dd25168a29f74ffb7a462bfbba9591a003fc633"), looks := false }, kinds := [], alts := [], laidByText := true, laidKinds := [.data], laidTests := true, laidLooks := .later }
def SlotsFewCardSaid : Prop := Claim7.holds Tryd.pinned (.plain (OpenSpec.ofChange slotsFewSpec)) slotsFewCard

/-- THE TIED CARD OF 'mothballlaw09.SlotsBack'. -/
def slotsBackCard : Claim7 := { stood := { row := slotsBackRow, standIns := [], harness := (true, "8883cb3be50ee81fa1d07ef68dd25168a29f74ffb7a462bfbba9591a003fc633"), looks := false }, kinds := [], alts := [], laidByText := true, laidKinds := [.data], laidTests := true, laidLooks := .later }
def SlotsBackCardSaid : Prop := Claim7.holds Tryd.pinned (.plain (OpenSpec.ofChange slotsBackSpec)) slotsBackCard

/-- THE SECOND FORM's CARD OF 'mothballlaw09.SlotsActs'. -/
def slotsActsUptoCard : Claim7 := { stood := { row := slotsActsUptoRow, standIns := [], harness := (true, "8883cb3be50ee81fa1d07ef68dd25168a29f74ffb7a462bfbba9591a003fc633"), looks := false }, kinds := [], alts := [], laidByText := true, laidKinds := [.data], laidTests := true, laidLooks := .later }
def SlotsActsUptoCardSaid : Prop := Claim7.holds Tryd.pinned (.plain (OpenSpec.upto slotsActsSpec)) slotsActsUptoCard

/-- THE SECOND FORM's CARD OF 'mothballlaw09.SlotsOnce'. -/
def slotsOnceUptoCard : Claim7 := { stood := { row := slotsOnceUptoRow, standIns := [], harness := (true, "8883cb3be50ee81fa1d07ef68dd25168a29f74ffb7a462bfbba9591a003fc633"), looks := false }, kinds := [], alts := [], laidByText := true, laidKinds := [.data], laidTests := true, laidLooks := .later }
def SlotsOnceUptoCardSaid : Prop := Claim7.holds Tryd.pinned (.plain (OpenSpec.upto slotsOnceSpec)) slotsOnceUptoCard

/-- THE SECOND FORM's CARD OF 'mothballlaw09.SlotsFew'. -/
def slotsFewUptoCard : Claim7 := { stood := { row := slotsFewUptoRow, standIns := [], harness := (true, "8883cb3be50ee81fa1d07ef68dd25168a29f74ffb7a462bfbba9591a003fc633"), looks := false }, kinds := [], alts := [], laidByText := true, laidKinds := [.data], laidTests := true, laidLooks := .later }
def SlotsFewUptoCardSaid : Prop := Claim7.holds Tryd.pinned (.plain (OpenSpec.upto slotsFewSpec)) slotsFewUptoCard

/-- THE SECOND FORM's CARD OF 'mothballlaw09.SlotsBack'. -/
def slotsBackUptoCard : Claim7 := { stood := { row := slotsBackUptoRow, standIns := [], harness := (true, "8883cb3be50ee81fa1d07ef68dd25168a29f74ffb7a462bfbba9591a003fc633"), looks := false }, kinds := [], alts := [], laidByText := true, laidKinds := [.data], laidTests := true, laidLooks := .later }
def SlotsBackUptoCardSaid : Prop := Claim7.holds Tryd.pinned (.plain (OpenSpec.upto slotsBackSpec)) slotsBackUptoCard
end Rows
end Go.Proofs.YthpodknhidgedaaDoor
