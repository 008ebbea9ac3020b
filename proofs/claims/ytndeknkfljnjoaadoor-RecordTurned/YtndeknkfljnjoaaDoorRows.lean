/-
  NARROWER THAN 'FOR EVERY INPUT', by the rows' own cells (each row's printed sentence says how): RecordParts: laid · RecordCuts: laid · RecordJoins: laid · RecordTurned: laid.
  DERIVED. THE GIVEN ROWS OF THIS SEAT. 4 by the template 'for every input the law returns true; each argument reads behind the call as it read before'; 0 by the template 'total and deterministic' (their statements: YtndeknkfljnjoaaDoorTotals.lean).
  GIVEN WITH THE SEED: the statements are not yours to turn. If you find one false, say at which input.
  Laid BY PROGRAM, IN A SANDBOX (cutbox-rows.mjs): the forced cells as the released guide's own fill.sh prints them over the translation 4851039ade82fa97… (all of the seat's roots in one cut). By AI agents, Wed Nov 11 2026. No macro, syntax, notation, axiom, sorry.
-/
import Derived.Test.YtndeknkfljnjoaaDoorChecked
import GoSem.Claim
import GoSem.ClaimJoined
import GoSem.ClaimMapViews
import Derived.JoinedTies
import Derived.KernelRfl
namespace Go.Proofs.YtndeknkfljnjoaaDoor
/- THE CELL 'sum', in the pinned program and in every row, IS THE sha256 OF THE DUMP (.gsa) THAT YtndeknkfljnjoaaDoorProg.lean LOADS. Nothing in Lean hashes anything: it is a label: what it is worth is what the hold of that sum in a sandbox is worth. -/
noncomputable def Tryd.pinned : Pinned := { name := "ytndeknkfljnjoaadoor", sum := "4851039ade82fa97734d3e88b5d0bcf2c7e85f00eab91b434c71a9632e9918fd", checked := Tryd.checked }
namespace Rows
def none {H : Type} : Left H := { results := [], args := [] }

/- WHAT THE LISTED PACKAGE-LEVEL VARIABLES READ AS WHEN THE CALL BEGINS. Each datum BY PROGRAM (the guide's laid-datum.mjs) off the statement by which the dump's own 'gosem.cut.vars' lays the variable. In a bare row this is a premise. The card (YtndeknkfljnjoaaDoorCards.lean) ties it to the program's text. -/
def laid_mothball_crc_steps {H : Type} : DataW H := .agg [.lit (.int .u32 0), .lit (.int .u32 498536548), .lit (.int .u32 997073096), .lit (.int .u32 651767980), .lit (.int .u32 1994146192), .lit (.int .u32 1802195444), .lit (.int .u32 1303535960), .lit (.int .u32 1342533948), .lit (.int .u32 3988292384), .lit (.int .u32 4027552580), .lit (.int .u32 3604390888), .lit (.int .u32 3412177804), .lit (.int .u32 2607071920), .lit (.int .u32 2262029012), .lit (.int .u32 2685067896), .lit (.int .u32 3183342108)]

/-- 'mothballlaw06.RecordParts': WHATEVER THE INPUT: true; the input reads as it did. -/
def recordPartsSpec : ChangeSpec := { name := "recordParts", fn := fun _ => fun
  | [d1, d2] => { results := [.lit (.bool true)], args := [d1, d2] }
  | _ => none }
def recordPartsRow : OpenClaim := { program := "ytndeknkfljnjoaadoor", sum := "4851039ade82fa97734d3e88b5d0bcf2c7e85f00eab91b434c71a9632e9918fd", func := "mothball/mothballlaw06.RecordParts", spec := "recordParts", unfollowed := true, recurses := true, named := ["mothball/crc.steps"], apart := false, laid := [("mothball/crc.steps", laid_mothball_crc_steps)] }
def RecordPartsSaid : Prop := recordPartsRow.holds Tryd.pinned (OpenSpec.ofChange recordPartsSpec)

/-- ITS FALSE NEIGHBOUR: 'it returns false'. Refute it at one input. -/
def recordPartsWrong : ChangeSpec := { name := "recordParts", fn := fun _ => fun
  | [d1, d2] => { results := [.lit (.bool false)], args := [d1, d2] }
  | _ => none }
def RecordPartsWrongFalsely : Prop := recordPartsRow.holds Tryd.pinned (OpenSpec.ofChange recordPartsWrong)

/-- 'mothballlaw06.RecordCuts': WHATEVER THE INPUT: true; the input reads as it did. -/
def recordCutsSpec : ChangeSpec := { name := "recordCuts", fn := fun _ => fun
  | [d1, d2, d3] => { results := [.lit (.bool true)], args := [d1, d2, d3] }
  | _ => none }
def recordCutsRow : OpenClaim := { program := "ytndeknkfljnjoaadoor", sum := "4851039ade82fa97734d3e88b5d0bcf2c7e85f00eab91b434c71a9632e9918fd", func := "mothball/mothballlaw06.RecordCuts", spec := "recordCuts", unfollowed := true, recurses := true, named := ["mothball/crc.steps"], apart := false, laid := [("mothball/crc.steps", laid_mothball_crc_steps)] }
def RecordCutsSaid : Prop := recordCutsRow.holds Tryd.pinned (OpenSpec.ofChange recordCutsSpec)

/-- ITS FALSE NEIGHBOUR: 'it returns false'. Refute it at one input. -/
def recordCutsWrong : ChangeSpec := { name := "recordCuts", fn := fun _ => fun
  | [d1, d2, d3] => { results := [.lit (.bool false)], args := [d1, d2, d3] }
  | _ => none }
def RecordCutsWrongFalsely : Prop := recordCutsRow.holds Tryd.pinned (OpenSpec.ofChange recordCutsWrong)

/-- 'mothballlaw06.RecordJoins': WHATEVER THE INPUT: true; the input reads as it did. -/
def recordJoinsSpec : ChangeSpec := { name := "recordJoins", fn := fun _ => fun
  | [d1, d2] => { results := [.lit (.bool true)], args := [d1, d2] }
  | _ => none }
def recordJoinsRow : OpenClaim := { program := "ytndeknkfljnjoaadoor", sum := "4851039ade82fa97734d3e88b5d0bcf2c7e85f00eab91b434c71a9632e9918fd", func := "mothball/mothballlaw06.RecordJoins", spec := "recordJoins", unfollowed := true, recurses := true, named := ["mothball/crc.steps"], apart := false, laid := [("mothball/crc.steps", laid_mothball_crc_steps)] }
def RecordJoinsSaid : Prop := recordJoinsRow.holds Tryd.pinned (OpenSpec.ofChange recordJoinsSpec)

/-- ITS FALSE NEIGHBOUR: 'it returns false'. Refute it at one input. -/
def recordJoinsWrong : ChangeSpec := { name := "recordJoins", fn := fun _ => fun
  | [d1, d2] => { results := [.lit (.bool false)], args := [d1, d2] }
  | _ => none }
def RecordJoinsWrongFalsely : Prop := recordJoinsRow.holds Tryd.pinned (OpenSpec.ofChange recordJoinsWrong)

/-- 'mothballlaw06.RecordTurned': WHATEVER THE INPUT: true; the input reads as it did. -/
def recordTurnedSpec : ChangeSpec := { name := "recordTurned", fn := fun _ => fun
  | [d1, d2, d3] => { results := [.lit (.bool true)], args := [d1, d2, d3] }
  | _ => none }
def recordTurnedRow : OpenClaim := { program := "ytndeknkfljnjoaadoor", sum := "4851039ade82fa97734d3e88b5d0bcf2c7e85f00eab91b434c71a9632e9918fd", func := "mothball/mothballlaw06.RecordTurned", spec := "recordTurned", unfollowed := true, recurses := true, named := ["mothball/crc.steps"], apart := false, laid := [("mothball/crc.steps", laid_mothball_crc_steps)] }
def RecordTurnedSaid : Prop := recordTurnedRow.holds Tryd.pinned (OpenSpec.ofChange recordTurnedSpec)

/-- ITS FALSE NEIGHBOUR: 'it returns false'. Refute it at one input. -/
def recordTurnedWrong : ChangeSpec := { name := "recordTurned", fn := fun _ => fun
  | [d1, d2, d3] => { results := [.lit (.bool false)], args := [d1, d2, d3] }
  | _ => none }
def RecordTurnedWrongFalsely : Prop := recordTurnedRow.holds Tryd.pinned (OpenSpec.ofChange recordTurnedWrong)

/- THE SECOND FORM. 'bulk': how many values and letters a reading holds, each counted each time it is reached (what is shared counts as often as it is met; a slice's spare places count too). A statement '..UptoSaid' is the law's where the arguments, and the package variables that the reading takes, are together of bulk at most 1048576: NARROWER than '..Said'. Prove '..Said' where nothing that the law and all that it calls make is longer than what came in: it says more and counts as full. Else prove '..UptoSaid'. A law counts once. -/
mutual
def uptoBulk {H : Type} : DataW H → Nat
  | .lit (.string bytes) => bytes.length + 1
  | .lit _ => 1
  | .nil => 1
  | .ptr d => uptoBulk d + 1
  | .slice elems spare => uptoBulkAll elems + uptoBulkAll spare + 1
  | .agg parts => uptoBulkAll parts + 1
  | .iface _ d => uptoBulk d + 1
  | .map entries => uptoBulkEntries entries + 1
  | .held _ => 1
def uptoBulkAll {H : Type} : List (DataW H) → Nat
  | [] => 0
  | d :: r => uptoBulk d + uptoBulkAll r
def uptoBulkEntries {H : Type} : List (Lit × DataW H) → Nat
  | [] => 0
  | x :: r => uptoBulkEntry x + uptoBulkEntries r
def uptoBulkEntry {H : Type} : Lit × DataW H → Nat
  | (.string bytes, d) => bytes.length + uptoBulk d + 1
  | (_, d) => uptoBulk d + 1
 end
def uptoSmall : (H : Type) → List (DataW H) → Bool := fun _ ds => decide (uptoBulkAll ds ≤ 1048576)
def OpenSpec.upto (s : _root_.Go.ChangeSpec) : _root_.Go.OpenSpec := { _root_.Go.OpenSpec.ofChange s with cond := some uptoSmall }

/-- 'mothballlaw06.RecordParts', WHERE WHAT IT READS IS OF BULK AT MOST 1048576: true; the input reads as it did. -/
def recordPartsUptoRow : OpenClaim := { program := "ytndeknkfljnjoaadoor", sum := "4851039ade82fa97734d3e88b5d0bcf2c7e85f00eab91b434c71a9632e9918fd", func := "mothball/mothballlaw06.RecordParts", spec := "recordParts", unfollowed := true, recurses := true, named := ["mothball/crc.steps"], apart := false, laid := [("mothball/crc.steps", laid_mothball_crc_steps)], narrowed := true }
def RecordPartsUptoSaid : Prop := recordPartsUptoRow.holds Tryd.pinned (OpenSpec.upto recordPartsSpec)

/-- 'mothballlaw06.RecordCuts', WHERE WHAT IT READS IS OF BULK AT MOST 1048576: true; the input reads as it did. -/
def recordCutsUptoRow : OpenClaim := { program := "ytndeknkfljnjoaadoor", sum := "4851039ade82fa97734d3e88b5d0bcf2c7e85f00eab91b434c71a9632e9918fd", func := "mothball/mothballlaw06.RecordCuts", spec := "recordCuts", unfollowed := true, recurses := true, named := ["mothball/crc.steps"], apart := false, laid := [("mothball/crc.steps", laid_mothball_crc_steps)], narrowed := true }
def RecordCutsUptoSaid : Prop := recordCutsUptoRow.holds Tryd.pinned (OpenSpec.upto recordCutsSpec)

/-- 'mothballlaw06.RecordJoins', WHERE WHAT IT READS IS OF BULK AT MOST 1048576: true; the input reads as it did. -/
def recordJoinsUptoRow : OpenClaim := { program := "ytndeknkfljnjoaadoor", sum := "4851039ade82fa97734d3e88b5d0bcf2c7e85f00eab91b434c71a9632e9918fd", func := "mothball/mothballlaw06.RecordJoins", spec := "recordJoins", unfollowed := true, recurses := true, named := ["mothball/crc.steps"], apart := false, laid := [("mothball/crc.steps", laid_mothball_crc_steps)], narrowed := true }
def RecordJoinsUptoSaid : Prop := recordJoinsUptoRow.holds Tryd.pinned (OpenSpec.upto recordJoinsSpec)

/-- 'mothballlaw06.RecordTurned', WHERE WHAT IT READS IS OF BULK AT MOST 1048576: true; the input reads as it did. -/
def recordTurnedUptoRow : OpenClaim := { program := "ytndeknkfljnjoaadoor", sum := "4851039ade82fa97734d3e88b5d0bcf2c7e85f00eab91b434c71a9632e9918fd", func := "mothball/mothballlaw06.RecordTurned", spec := "recordTurned", unfollowed := true, recurses := true, named := ["mothball/crc.steps"], apart := false, laid := [("mothball/crc.steps", laid_mothball_crc_steps)], narrowed := true }
def RecordTurnedUptoSaid : Prop := recordTurnedUptoRow.holds Tryd.pinned (OpenSpec.upto recordTurnedSpec)

end Rows
end Go.Proofs.YtndeknkfljnjoaaDoor
