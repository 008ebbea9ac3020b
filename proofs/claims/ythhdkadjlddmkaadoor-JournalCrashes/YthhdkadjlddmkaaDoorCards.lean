/-
  DERIVED. GIVEN WITH THE SEED: THE CARDS: each row of YthhdkadjlddmkaaDoorRows.lean that lists a variable, with what it lists TIED to the program's text (the seventh form; the later family's looks); each row that meets fmt, with fmt's text TOLD by the authors' own Lean function (tested against real Go, not proved from fmt's source: count such statements apart). THE CARD IS WHAT COUNTS. Prove the row's statement (the work); the ties are given (YthhdkadjlddmkaaDoorTie.lean); close each card by the builder's one call (the guide's Derived/Test/ToyasCard.lean, 'card_holds'). Laid BY PROGRAM, IN A SANDBOX (cutbox-door.mjs). By AI agents, Wed Nov 11 2026. No macro, syntax, notation, axiom, sorry.
-/
import Derived.Test.YthhdkadjlddmkaaDoorRows
import GoSem.ClaimSeven
namespace Go.Proofs.YthhdkadjlddmkaaDoor
namespace Rows

/-- THE TIED CARD OF 'mothballlaw07.JournalCrashes'. -/
def journalCrashesCard : Claim7 := { stood := { row := journalCrashesRow, standIns := [], harness := (true, "7369d305b1fecb86eb76651f9bc115a776e8a18514ab0e190996052767dd2222"), looks := false }, kinds := [], alts := [], laidByText := true, laidKinds := [.data], laidTests := true, laidLooks := .later }
def JournalCrashesCardSaid : Prop := Claim7.holds Tryd.pinned (.plain (OpenSpec.ofChange journalCrashesSpec)) journalCrashesCard

/-- THE TIED CARD OF 'mothballlaw07.JournalRound'. -/
def journalRoundCard : Claim7 := { stood := { row := journalRoundRow, standIns := [], harness := (true, "7369d305b1fecb86eb76651f9bc115a776e8a18514ab0e190996052767dd2222"), looks := false }, kinds := [], alts := [], laidByText := true, laidKinds := [.data], laidTests := true, laidLooks := .later }
def JournalRoundCardSaid : Prop := Claim7.holds Tryd.pinned (.plain (OpenSpec.ofChange journalRoundSpec)) journalRoundCard

/-- THE TIED CARD OF 'mothballlaw07.JournalFits'. -/
def journalFitsCard : Claim7 := { stood := { row := journalFitsRow, standIns := [], harness := (true, "7369d305b1fecb86eb76651f9bc115a776e8a18514ab0e190996052767dd2222"), looks := false }, kinds := [], alts := [], laidByText := true, laidKinds := [.data], laidTests := true, laidLooks := .later }
def JournalFitsCardSaid : Prop := Claim7.holds Tryd.pinned (.plain (OpenSpec.ofChange journalFitsSpec)) journalFitsCard

/-- THE TIED CARD OF 'mothballlaw07.JournalElder'. -/
def journalElderCard : Claim7 := { stood := { row := journalElderRow, standIns := [], harness := (true, "7369d305b1fecb86eb76651f9bc115a776e8a18514ab0e190996052767dd2222"), looks := false }, kinds := [], alts := [], laidByText := true, laidKinds := [.data], laidTests := true, laidLooks := .later }
def JournalElderCardSaid : Prop := Claim7.holds Tryd.pinned (.plain (OpenSpec.ofChange journalElderSpec)) journalElderCard

/-- THE SECOND FORM's CARD OF 'mothballlaw07.JournalCrashes'. -/
def journalCrashesUptoCard : Claim7 := { stood := { row := journalCrashesUptoRow, standIns := [], harness := (true, "7369d305b1fecb86eb76651f9bc115a776e8a18514ab0e190996052767dd2222"), looks := false }, kinds := [], alts := [], laidByText := true, laidKinds := [.data], laidTests := true, laidLooks := .later }
def JournalCrashesUptoCardSaid : Prop := Claim7.holds Tryd.pinned (.plain (OpenSpec.upto journalCrashesSpec)) journalCrashesUptoCard

/-- THE SECOND FORM's CARD OF 'mothballlaw07.JournalRound'. -/
def journalRoundUptoCard : Claim7 := { stood := { row := journalRoundUptoRow, standIns := [], harness := (true, "7369d305b1fecb86eb76651f9bc115a776e8a18514ab0e190996052767dd2222"), looks := false }, kinds := [], alts := [], laidByText := true, laidKinds := [.data], laidTests := true, laidLooks := .later }
def JournalRoundUptoCardSaid : Prop := Claim7.holds Tryd.pinned (.plain (OpenSpec.upto journalRoundSpec)) journalRoundUptoCard

/-- THE SECOND FORM's CARD OF 'mothballlaw07.JournalFits'. -/
def journalFitsUptoCard : Claim7 := { stood := { row := journalFitsUptoRow, standIns := [], harness := (true, "7369d305b1fecb86eb76651f9bc115a776e8a18514ab0e190996052767dd2222"), looks := false }, kinds := [], alts := [], laidByText := true, laidKinds := [.data], laidTests := true, laidLooks := .later }
def JournalFitsUptoCardSaid : Prop := Claim7.holds Tryd.pinned (.plain (OpenSpec.upto journalFitsSpec)) journalFitsUptoCard

/-- THE SECOND FORM's CARD OF 'mothballlaw07.JournalElder'. -/
def journalElderUptoCard : Claim7 := { stood := { row := journalElderUptoRow, standIns := [], harness := (true, "7369d305b1fecb86eb76651f9bc115a776e8a18514ab0e190996052767dd2222"), looks := false }, kinds := [], alts := [], laidByText := true, laidKinds := [.data], laidTests := true, laidLooks := .later }
def JournalElderUptoCardSaid : Prop := Claim7.holds Tryd.pinned (.plain (OpenSpec.upto journalElderSpec)) journalElderUptoCard
end Rows
end Go.Proofs.YthhdkadjlddmkaaDoor
