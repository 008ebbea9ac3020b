/-
  DERIVED. GIVEN WITH THE SEED: THE CARDS: each row of YtebiccpnehphiaaDoorRows.lean that lists a variable, with what it lists TIED to the program's text (the seventh form; the later family's looks); each row that meets fmt, with fmt's text TOLD by the authors' own Lean function (tested against real Go, not proved from fmt's source: count such statements apart). THE CARD IS WHAT COUNTS. Prove the row's statement (the work); the ties are given (YtebiccpnehphiaaDoorTie.lean); close each card by the builder's one call (the guide's Derived/Test/ToyasCard.lean, 'card_holds'). Laid BY PROGRAM, IN A SANDBOX (cutbox-door.mjs). By AI agents, Wed Nov 11 2026. No macro, syntax, notation, axiom, sorry.
-/
import Derived.Test.YtebiccpnehphiaaDoorRows
import GoSem.ClaimSeven
namespace Go.Proofs.YtebiccpnehphiaaDoor
namespace Rows

/-- THE TIED CARD OF 'mothballlaw08.BitsLoads'. -/
def bitsLoadsCard : Claim7 := { stood := { row := bitsLoadsRow, standIns := [], harness := (true, "63c2526c2406e02d71e36d0b8b7ccde0510ba072fd0f42b1926dff4b4d983e08"), looks := false }, kinds := [], alts := [], laidByText := true, laidKinds := [.data], laidTests := true, laidLooks := .later }
def BitsLoadsCardSaid : Prop := Claim7.holds Tryd.pinned (.plain (OpenSpec.ofChange bitsLoadsSpec)) bitsLoadsCard

/-- THE TIED CARD OF 'mothballlaw08.BitsRuns'. -/
def bitsRunsCard : Claim7 := { stood := { row := bitsRunsRow, standIns := [], harness := (true, "63c2526c2406e02d71e36d0b8b7ccde0510ba072fd0f42b1926dff4b4d983e08"), looks := false }, kinds := [], alts := [], laidByText := true, laidKinds := [.data], laidTests := true, laidLooks := .later }
def BitsRunsCardSaid : Prop := Claim7.holds Tryd.pinned (.plain (OpenSpec.ofChange bitsRunsSpec)) bitsRunsCard

/-- THE TIED CARD OF 'mothballlaw08.BitsEach'. -/
def bitsEachCard : Claim7 := { stood := { row := bitsEachRow, standIns := [], harness := (true, "63c2526c2406e02d71e36d0b8b7ccde0510ba072fd0f42b1926dff4b4d983e08"), looks := false }, kinds := [], alts := [], laidByText := true, laidKinds := [.data], laidTests := true, laidLooks := .later }
def BitsEachCardSaid : Prop := Claim7.holds Tryd.pinned (.plain (OpenSpec.ofChange bitsEachSpec)) bitsEachCard

/-- THE SECOND FORM's CARD OF 'mothballlaw08.BitsLoads'. -/
def bitsLoadsUptoCard : Claim7 := { stood := { row := bitsLoadsUptoRow, standIns := [], harness := (true, "63c2526c2406e02d71e36d0b8b7ccde0510ba072fd0f42b1926dff4b4d983e08"), looks := false }, kinds := [], alts := [], laidByText := true, laidKinds := [.data], laidTests := true, laidLooks := .later }
def BitsLoadsUptoCardSaid : Prop := Claim7.holds Tryd.pinned (.plain (OpenSpec.upto bitsLoadsSpec)) bitsLoadsUptoCard

/-- THE SECOND FORM's CARD OF 'mothballlaw08.BitsRuns'. -/
def bitsRunsUptoCard : Claim7 := { stood := { row := bitsRunsUptoRow, standIns := [], harness := (true, "63c2526c2406e02d71e36d0b8b7ccde0510ba072fd0f42b1926dff4b4d983e08"), looks := false }, kinds := [], alts := [], laidByText := true, laidKinds := [.data], laidTests := true, laidLooks := .later }
def BitsRunsUptoCardSaid : Prop := Claim7.holds Tryd.pinned (.plain (OpenSpec.upto bitsRunsSpec)) bitsRunsUptoCard

/-- THE SECOND FORM's CARD OF 'mothballlaw08.BitsEach'. -/
def bitsEachUptoCard : Claim7 := { stood := { row := bitsEachUptoRow, standIns := [], harness := (true, "63c2526c2406e02d71e36d0b8b7ccde0510ba072fd0f42b1926dff4b4d983e08"), looks := false }, kinds := [], alts := [], laidByText := true, laidKinds := [.data], laidTests := true, laidLooks := .later }
def BitsEachUptoCardSaid : Prop := Claim7.holds Tryd.pinned (.plain (OpenSpec.upto bitsEachSpec)) bitsEachUptoCard
end Rows
end Go.Proofs.YtebiccpnehphiaaDoor
