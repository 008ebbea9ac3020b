/-
  NARROWER THAN 'FOR EVERY INPUT', by the rows' own cells (each row's printed sentence says how): JournalCrashes: laid · JournalRound: laid · JournalFits: laid · JournalElder: laid.
  DERIVED. THE GIVEN ROWS OF THIS SEAT. 4 by the template 'for every input the law returns true; each argument reads behind the call as it read before'; 0 by the template 'total and deterministic' (their statements: YthhdkadjlddmkaaDoorTotals.lean).
  GIVEN WITH THE SEED: the statements are not yours to turn. If you find one false, say at which input.
  Laid BY PROGRAM, IN A SANDBOX (cutbox-rows.mjs): the forced cells as the released guide's own fill.sh prints them over the translation ca84fce106381f75… (all of the seat's roots in one cut). By AI agents, Wed Nov 11 2026. No macro, syntax, notation, axiom, sorry.
-/
import Derived.Test.YthhdkadjlddmkaaDoorChecked
import GoSem.Claim
import GoSem.ClaimJoined
import GoSem.ClaimMapViews
import Derived.JoinedTies
import Derived.KernelRfl
namespace Go.Proofs.YthhdkadjlddmkaaDoor
/- THE CELL 'sum', in the pinned program and in every row, IS THE sha256 OF THE DUMP (.gsa) THAT YthhdkadjlddmkaaDoorProg.lean LOADS. Nothing in Lean hashes anything: it is a label: what it is worth is what the hold of that sum in a sandbox is worth. -/
noncomputable def Tryd.pinned : Pinned := { name := "ythhdkadjlddmkaadoor", sum := "ca84fce106381f757fe648b8bdc42b30bb7f89e8beec0daf237be4c10327bef9", checked := Tryd.checked }
namespace Rows
def none {H : Type} : Left H := { results := [], args := [] }

/- WHAT THE LISTED PACKAGE-LEVEL VARIABLES READ AS WHEN THE CALL BEGINS. Each datum BY PROGRAM (the guide's laid-datum.mjs) off the statement by which the dump's own 'gosem.cut.vars' lays the variable. In a bare row this is a premise. The card (YthhdkadjlddmkaaDoorCards.lean) ties it to the program's text. -/
def laid_mothball_crc_steps {H : Type} : DataW H := .agg [.lit (.int .u32 0), .lit (.int .u32 498536548), .lit (.int .u32 997073096), .lit (.int .u32 651767980), .lit (.int .u32 1994146192), .lit (.int .u32 1802195444), .lit (.int .u32 1303535960), .lit (.int .u32 1342533948), .lit (.int .u32 3988292384), .lit (.int .u32 4027552580), .lit (.int .u32 3604390888), .lit (.int .u32 3412177804), .lit (.int .u32 2607071920), .lit (.int .u32 2262029012), .lit (.int .u32 2685067896), .lit (.int .u32 3183342108)]

/-- 'mothballlaw07.JournalCrashes': WHATEVER THE INPUT: true; the input reads as it did. -/
def journalCrashesSpec : ChangeSpec := { name := "journalCrashes", fn := fun _ => fun
  | [d1, d2] => { results := [.lit (.bool true)], args := [d1, d2] }
  | _ => none }
def journalCrashesRow : OpenClaim := { program := "ythhdkadjlddmkaadoor", sum := "ca84fce106381f757fe648b8bdc42b30bb7f89e8beec0daf237be4c10327bef9", func := "mothball/mothballlaw07.JournalCrashes", spec := "journalCrashes", unfollowed := true, recurses := true, named := ["mothball/crc.steps"], apart := false, laid := [("mothball/crc.steps", laid_mothball_crc_steps)] }
def JournalCrashesSaid : Prop := journalCrashesRow.holds Tryd.pinned (OpenSpec.ofChange journalCrashesSpec)

/-- ITS FALSE NEIGHBOUR: 'it returns false'. Refute it at one input. -/
def journalCrashesWrong : ChangeSpec := { name := "journalCrashes", fn := fun _ => fun
  | [d1, d2] => { results := [.lit (.bool false)], args := [d1, d2] }
  | _ => none }
def JournalCrashesWrongFalsely : Prop := journalCrashesRow.holds Tryd.pinned (OpenSpec.ofChange journalCrashesWrong)

/-- 'mothballlaw07.JournalRound': WHATEVER THE INPUT: true; the input reads as it did. -/
def journalRoundSpec : ChangeSpec := { name := "journalRound", fn := fun _ => fun
  | [d1, d2] => { results := [.lit (.bool true)], args := [d1, d2] }
  | _ => none }
def journalRoundRow : OpenClaim := { program := "ythhdkadjlddmkaadoor", sum := "ca84fce106381f757fe648b8bdc42b30bb7f89e8beec0daf237be4c10327bef9", func := "mothball/mothballlaw07.JournalRound", spec := "journalRound", unfollowed := true, recurses := true, named := ["mothball/crc.steps"], apart := false, laid := [("mothball/crc.steps", laid_mothball_crc_steps)] }
def JournalRoundSaid : Prop := journalRoundRow.holds Tryd.pinned (OpenSpec.ofChange journalRoundSpec)

/-- ITS FALSE NEIGHBOUR: 'it returns false'. Refute it at one input. -/
def journalRoundWrong : ChangeSpec := { name := "journalRound", fn := fun _ => fun
  | [d1, d2] => { results := [.lit (.bool false)], args := [d1, d2] }
  | _ => none }
def JournalRoundWrongFalsely : Prop := journalRoundRow.holds Tryd.pinned (OpenSpec.ofChange journalRoundWrong)

/-- 'mothballlaw07.JournalFits': WHATEVER THE INPUT: true; the input reads as it did. -/
def journalFitsSpec : ChangeSpec := { name := "journalFits", fn := fun _ => fun
  | [d1, d2] => { results := [.lit (.bool true)], args := [d1, d2] }
  | _ => none }
def journalFitsRow : OpenClaim := { program := "ythhdkadjlddmkaadoor", sum := "ca84fce106381f757fe648b8bdc42b30bb7f89e8beec0daf237be4c10327bef9", func := "mothball/mothballlaw07.JournalFits", spec := "journalFits", unfollowed := true, recurses := true, named := ["mothball/crc.steps"], apart := false, laid := [("mothball/crc.steps", laid_mothball_crc_steps)] }
def JournalFitsSaid : Prop := journalFitsRow.holds Tryd.pinned (OpenSpec.ofChange journalFitsSpec)

/-- ITS FALSE NEIGHBOUR: 'it returns false'. Refute it at one input. -/
def journalFitsWrong : ChangeSpec := { name := "journalFits", fn := fun _ => fun
  | [d1, d2] => { results := [.lit (.bool false)], args := [d1, d2] }
  | _ => none }
def JournalFitsWrongFalsely : Prop := journalFitsRow.holds Tryd.pinned (OpenSpec.ofChange journalFitsWrong)

/-- 'mothballlaw07.JournalElder': WHATEVER THE INPUT: true; the input reads as it did. -/
def journalElderSpec : ChangeSpec := { name := "journalElder", fn := fun _ => fun
  | [d1, d2, d3] => { results := [.lit (.bool true)], args := [d1, d2, d3] }
  | _ => none }
def journalElderRow : OpenClaim := { program := "ythhdkadjlddmkaadoor", sum := "ca84fce106381f757fe648b8bdc42b30bb7f89e8beec0daf237be4c10327bef9", func := "mothball/mothballlaw07.JournalElder", spec := "journalElder", unfollowed := true, recurses := true, named := ["mothball/crc.steps"], apart := false, laid := [("mothball/crc.steps", laid_mothball_crc_steps)] }
def JournalElderSaid : Prop := journalElderRow.holds Tryd.pinned (OpenSpec.ofChange journalElderSpec)

/-- ITS FALSE NEIGHBOUR: 'it returns false'. Refute it at one input. -/
def journalElderWrong : ChangeSpec := { name := "journalElder", fn := fun _ => fun
  | [d1, d2, d3] => { results := [.lit (.bool false)], args := [d1, d2, d3] }
  | _ => none }
def JournalElderWrongFalsely : Prop := journalElderRow.holds Tryd.pinned (OpenSpec.ofChange journalElderWrong)

/- THE SECOND FORM. 'bulk': how many values and letters a reading holds, each counted each time it is reached (what is shared counts as often as it is met; a slice's spare places count too). A statement '..UptoSaid' is the law's where the arguments, and the package variables that the reading takes, are together of bulk at most 1048576: NARROWER than '..Said'. Prove '..Said' where nothing that the law and all that it calls make is longer than what came in: it says more and counts as full. Else prove '..UptoSaid'. A law counts once. -/
mutual
def uptoBulk {H : Type} : DataW H → Nat
  | .lit (.string bytes) => bytes.length + 1
  | .lit _ => 1
  | .nil => 1
  | .ptr d => uptoBulk d + 1
  | .slice elems spare => uptoBulkAll elems + uptoBulkAll spare + 1
  | .agg parts => uptoBulkAll parts + 1
  | .iface _ d => uptoBulk d + 1
  | .map entries => uptoBulkEntries entries + 1
  | .held _ => 1
def uptoBulkAll {H : Type} : List (DataW H) → Nat
  | [] => 0
  | d :: r => uptoBulk d + uptoBulkAll r
def uptoBulkEntries {H : Type} : List (Lit × DataW H) → Nat
  | [] => 0
  | x :: r => uptoBulkEntry x + uptoBulkEntries r
def uptoBulkEntry {H : Type} : Lit × DataW H → Nat
  | (.string bytes, d) => bytes.length + uptoBulk d + 1
  | (_, d) => uptoBulk d + 1
 end
def uptoSmall : (H : Type) → List (DataW H) → Bool := fun _ ds => decide (uptoBulkAll ds ≤ 1048576)
def OpenSpec.upto (s : _root_.Go.ChangeSpec) : _root_.Go.OpenSpec := { _root_.Go.OpenSpec.ofChange s with cond := some uptoSmall }

/-- 'mothballlaw07.JournalCrashes', WHERE WHAT IT READS IS OF BULK AT MOST 1048576: true; the input reads as it did. -/
def journalCrashesUptoRow : OpenClaim := { program := "ythhdkadjlddmkaadoor", sum := "ca84fce106381f757fe648b8bdc42b30bb7f89e8beec0daf237be4c10327bef9", func := "mothball/mothballlaw07.JournalCrashes", spec := "journalCrashes", unfollowed := true, recurses := true, named := ["mothball/crc.steps"], apart := false, laid := [("mothball/crc.steps", laid_mothball_crc_steps)], narrowed := true }
def JournalCrashesUptoSaid : Prop := journalCrashesUptoRow.holds Tryd.pinned (OpenSpec.upto journalCrashesSpec)

/-- 'mothballlaw07.JournalRound', WHERE WHAT IT READS IS OF BULK AT MOST 1048576: true; the input reads as it did. -/
def journalRoundUptoRow : OpenClaim := { program := "ythhdkadjlddmkaadoor", sum := "ca84fce106381f757fe648b8bdc42b30bb7f89e8beec0daf237be4c10327bef9", func := "mothball/mothballlaw07.JournalRound", spec := "journalRound", unfollowed := true, recurses := true, named := ["mothball/crc.steps"], apart := false, laid := [("mothball/crc.steps", laid_mothball_crc_steps)], narrowed := true }
def JournalRoundUptoSaid : Prop := journalRoundUptoRow.holds Tryd.pinned (OpenSpec.upto journalRoundSpec)

/-- 'mothballlaw07.JournalFits', WHERE WHAT IT READS IS OF BULK AT MOST 1048576: true; the input reads as it did. -/
def journalFitsUptoRow : OpenClaim := { program := "ythhdkadjlddmkaadoor", sum := "ca84fce106381f757fe648b8bdc42b30bb7f89e8beec0daf237be4c10327bef9", func := "mothball/mothballlaw07.JournalFits", spec := "journalFits", unfollowed := true, recurses := true, named := ["mothball/crc.steps"], apart := false, laid := [("mothball/crc.steps", laid_mothball_crc_steps)], narrowed := true }
def JournalFitsUptoSaid : Prop := journalFitsUptoRow.holds Tryd.pinned (OpenSpec.upto journalFitsSpec)

/-- 'mothballlaw07.JournalElder', WHERE WHAT IT READS IS OF BULK AT MOST 1048576: true; the input reads as it did. -/
def journalElderUptoRow : OpenClaim := { program := "ythhdkadjlddmkaadoor", sum := "ca84fce106381f757fe648b8bdc42b30bb7f89e8beec0daf237be4c10327bef9", func := "mothball/mothballlaw07.JournalElder", spec := "journalElder", unfollowed := true, recurses := true, named := ["mothball/crc.steps"], apart := false, laid := [("mothball/crc.steps", laid_mothball_crc_steps)], narrowed := true }
def JournalElderUptoSaid : Prop := journalElderUptoRow.holds Tryd.pinned (OpenSpec.upto journalElderSpec)

end Rows
end Go.Proofs.YthhdkadjlddmkaaDoor
