/-
  DERIVED. GIVEN WITH THE SEED: THE CARDS: each row of YtgbibhbmcbbbhaaDoorRows.lean that lists a variable, with what it lists TIED to the program's text (the seventh form; the later family's looks); each row that meets fmt, with fmt's text TOLD by the authors' own Lean function (tested against real Go, not proved from fmt's source: count such statements apart). THE CARD IS WHAT COUNTS. Prove the row's statement (the work); the ties are given (YtgbibhbmcbbbhaaDoorTie.lean); close each card by the builder's one call (the guide's Derived/Test/ToyasCard.lean, 'card_holds'). Laid BY PROGRAM, IN A SANDBOX (cutbox-door.mjs). By AI agents, Wed Nov 11 2026. No macro, syntax, notation, axiom, sorry.
-/
import Derived.Test.YtgbibhbmcbbbhaaDoorRows
import GoSem.ClaimSeven
namespace Go.Proofs.YtgbibhbmcbbbhaaDoor
namespace Rows

/-- THE TIED CARD OF 'mothballlaw05.SuperPuts'. -/
def superPutsCard : Claim7 := { stood := { row := superPutsRow, standIns := [], harness := (true, "99cd85dcf2d53f5fb76b7ffc18bdad083afff5019a50f64ee2289926a51aab49"), looks := false }, kinds := [], alts := [], laidByText := true, laidKinds := [.data], laidTests := true, laidLooks := .later }
def SuperPutsCardSaid : Prop := Claim7.holds Tryd.pinned (.plain (OpenSpec.ofChange superPutsSpec)) superPutsCard

/-- THE TIED CARD OF 'mothballlaw05.SuperGets'. -/
def superGetsCard : Claim7 := { stood := { row := superGetsRow, standIns := [], harness := (true, "99cd85dcf2d53f5fb76b7ffc18bdad083afff5019a50f64ee2289926a51aab49"), looks := false }, kinds := [], alts := [], laidByText := true, laidKinds := [.data], laidTests := true, laidLooks := .later }
def SuperGetsCardSaid : Prop := Claim7.holds Tryd.pinned (.plain (OpenSpec.ofChange superGetsSpec)) superGetsCard

/-- THE TIED CARD OF 'mothballlaw05.SuperTurns'. -/
def superTurnsCard : Claim7 := { stood := { row := superTurnsRow, standIns := [], harness := (true, "99cd85dcf2d53f5fb76b7ffc18bdad083afff5019a50f64ee2289926a51aab49"), looks := false }, kinds := [], alts := [], laidByText := true, laidKinds := [.data], laidTests := true, laidLooks := .later }
def SuperTurnsCardSaid : Prop := Claim7.holds Tryd.pinned (.plain (OpenSpec.ofChange superTurnsSpec)) superTurnsCard

/-- THE TIED CARD OF 'mothballlaw05.SuperTurned'. -/
def superTurnedCard : Claim7 := { stood := { row := superTurnedRow, standIns := [], harness := (true, "99cd85dcf2d53f5fb76b7ffc18bdad083afff5019a50f64ee2289926a51aab49"), looks := false }, kinds := [], alts := [], laidByText := true, laidKinds := [.data], laidTests := true, laidLooks := .later }
def SuperTurnedCardSaid : Prop := Claim7.holds Tryd.pinned (.plain (OpenSpec.ofChange superTurnedSpec)) superTurnedCard

/-- THE TIED CARD OF 'mothballlaw05.SuperTorn'. -/
def superTornCard : Claim7 := { stood := { row := superTornRow, standIns := [], harness := (true, "99cd85dcf2d53f5fb76b7ffc18bdad083afff5019a50f64ee2289926a51aab49"), looks := false }, kinds := [], alts := [], laidByText := true, laidKinds := [.data], laidTests := true, laidLooks := .later }
def SuperTornCardSaid : Prop := Claim7.holds Tryd.pinned (.plain (OpenSpec.ofChange superTornSpec)) superTornCard

/-- THE SECOND FORM's CARD OF 'mothballlaw05.SuperPuts'. -/
def superPutsUptoCard : Claim7 := { stood := { row := superPutsUptoRow, standIns := [], harness := (true, "99cd85dcf2d53f5fb76b7ffc18bdad083afff5019a50f64ee2289926a51aab49"), looks := false }, kinds := [], alts := [], laidByText := true, laidKinds := [.data], laidTests := true, laidLooks := .later }
def SuperPutsUptoCardSaid : Prop := Claim7.holds Tryd.pinned (.plain (OpenSpec.upto superPutsSpec)) superPutsUptoCard

/-- THE SECOND FORM's CARD OF 'mothballlaw05.SuperGets'. -/
def superGetsUptoCard : Claim7 := { stood := { row := superGetsUptoRow, standIns := [], harness := (true, "99cd85dcf2d53f5fb76b7ffc18bdad083afff5019a50f64ee2289926a51aab49"), looks := false }, kinds := [], alts := [], laidByText := true, laidKinds := [.data], laidTests := true, laidLooks := .later }
def SuperGetsUptoCardSaid : Prop := Claim7.holds Tryd.pinned (.plain (OpenSpec.upto superGetsSpec)) superGetsUptoCard

/-- THE SECOND FORM's CARD OF 'mothballlaw05.SuperTurns'. -/
def superTurnsUptoCard : Claim7 := { stood := { row := superTurnsUptoRow, standIns := [], harness := (true, "99cd85dcf2d53f5fb76b7ffc18bdad083afff5019a50f64ee2289926a51aab49"), looks := false }, kinds := [], alts := [], laidByText := true, laidKinds := [.data], laidTests := true, laidLooks := .later }
def SuperTurnsUptoCardSaid : Prop := Claim7.holds Tryd.pinned (.plain (OpenSpec.upto superTurnsSpec)) superTurnsUptoCard

/-- THE SECOND FORM's CARD OF 'mothballlaw05.SuperTurned'. -/
def superTurnedUptoCard : Claim7 := { stood := { row := superTurnedUptoRow, standIns := [], harness := (true, "99cd85dcf2d53f5fb76b7ffc18bdad083afff5019a50f64ee2289926a51aab49"), looks := false }, kinds := [], alts := [], laidByText := true, laidKinds := [.data], laidTests := true, laidLooks := .later }
def SuperTurnedUptoCardSaid : Prop := Claim7.holds Tryd.pinned (.plain (OpenSpec.upto superTurnedSpec)) superTurnedUptoCard

/-- THE SECOND FORM's CARD OF 'mothballlaw05.SuperTorn'. -/
def superTornUptoCard : Claim7 := { stood := { row := superTornUptoRow, standIns := [], harness := (true, "99cd85dcf2d53f5fb76b7ffc18bdad083afff5019a50f64ee2289926a51aab49"), looks := false }, kinds := [], alts := [], laidByText := true, laidKinds := [.data], laidTests := true, laidLooks := .later }
def SuperTornUptoCardSaid : Prop := Claim7.holds Tryd.pinned (.plain (OpenSpec.upto superTornSpec)) superTornUptoCard
end Rows
end Go.Proofs.YtgbibhbmcbbbhaaDoor
