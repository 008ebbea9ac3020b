/-
  NARROWER THAN 'FOR EVERY INPUT', by the rows' own cells (each row's printed sentence says how): SuperPuts: laid · SuperGets: laid · SuperTurns: laid · SuperTurned: laid · SuperTorn: laid.
  DERIVED. THE GIVEN ROWS OF THIS SEAT. 5 by the template 'for every input the law returns true; each argument reads behind the call as it read before'; 0 by the template 'total and deterministic' (their statements: YtgbibhbmcbbbhaaDoorTotals.lean).
  GIVEN WITH THE SEED: the statements are not yours to turn. If you find one false, say at which input.
  Laid BY PROGRAM, IN A SANDBOX (cutbox-rows.mjs): the forced cells as the released guide's own fill.sh prints them over the translation 0192e8de48d106bc… (all of the seat's roots in one cut). By AI agents, Wed Nov 11 2026. No macro, syntax, notation, axiom, sorry.
-/
import Derived.Test.YtgbibhbmcbbbhaaDoorChecked
import GoSem.Claim
import GoSem.ClaimJoined
import GoSem.ClaimMapViews
import Derived.JoinedTies
import Derived.KernelRfl
namespace Go.Proofs.YtgbibhbmcbbbhaaDoor
/- THE CELL 'sum', in the pinned program and in every row, IS THE sha256 OF THE DUMP (.gsa) THAT YtgbibhbmcbbbhaaDoorProg.lean LOADS. Nothing in Lean hashes anything: it is a label: what it is worth is what the hold of that sum in a sandbox is worth. -/
noncomputable def Tryd.pinned : Pinned := { name := "ytgbibhbmcbbbhaadoor", sum := "0192e8de48d106bcf43d05df2dc8d126280556be3484e32c54e4af5ee5380881", checked := Tryd.checked }
namespace Rows
def none {H : Type} : Left H := { results := [], args := [] }

/- WHAT THE LISTED PACKAGE-LEVEL VARIABLES READ AS WHEN THE CALL BEGINS. Each datum BY PROGRAM (the guide's laid-datum.mjs) off the statement by which the dump's own 'gosem.cut.vars' lays the variable. In a bare row this is a premise. The card (YtgbibhbmcbbbhaaDoorCards.lean) ties it to the program's text. -/
def laid_mothball_crc_steps {H : Type} : DataW H := .agg [.lit (.int .u32 0), .lit (.int .u32 498536548), .lit (.int .u32 997073096), .lit (.int .u32 651767980), .lit (.int .u32 1994146192), .lit (.int .u32 1802195444), .lit (.int .u32 1303535960), .lit (.int .u32 1342533948), .lit (.int .u32 3988292384), .lit (.int .u32 4027552580), .lit (.int .u32 3604390888), .lit (.int .u32 3412177804), .lit (.int .u32 2607071920), .lit (.int .u32 2262029012), .lit (.int .u32 2685067896), .lit (.int .u32 3183342108)]

/-- 'mothballlaw05.SuperPuts': WHATEVER THE INPUT: true; the input reads as it did. -/
def superPutsSpec : ChangeSpec := { name := "superPuts", fn := fun _ => fun
  | [d] => { results := [.lit (.bool true)], args := [d] }
  | _ => none }
def superPutsRow : OpenClaim := { program := "ytgbibhbmcbbbhaadoor", sum := "0192e8de48d106bcf43d05df2dc8d126280556be3484e32c54e4af5ee5380881", func := "mothball/mothballlaw05.SuperPuts", spec := "superPuts", unfollowed := true, recurses := true, named := ["mothball/crc.steps"], apart := false, laid := [("mothball/crc.steps", laid_mothball_crc_steps)] }
def SuperPutsSaid : Prop := superPutsRow.holds Tryd.pinned (OpenSpec.ofChange superPutsSpec)

/-- ITS FALSE NEIGHBOUR: 'it returns false'. Refute it at one input. -/
def superPutsWrong : ChangeSpec := { name := "superPuts", fn := fun _ => fun
  | [d] => { results := [.lit (.bool false)], args := [d] }
  | _ => none }
def SuperPutsWrongFalsely : Prop := superPutsRow.holds Tryd.pinned (OpenSpec.ofChange superPutsWrong)

/-- 'mothballlaw05.SuperGets': WHATEVER THE INPUT: true; the input reads as it did. -/
def superGetsSpec : ChangeSpec := { name := "superGets", fn := fun _ => fun
  | [d] => { results := [.lit (.bool true)], args := [d] }
  | _ => none }
def superGetsRow : OpenClaim := { program := "ytgbibhbmcbbbhaadoor", sum := "0192e8de48d106bcf43d05df2dc8d126280556be3484e32c54e4af5ee5380881", func := "mothball/mothballlaw05.SuperGets", spec := "superGets", unfollowed := true, recurses := true, named := ["mothball/crc.steps"], apart := false, laid := [("mothball/crc.steps", laid_mothball_crc_steps)] }
def SuperGetsSaid : Prop := superGetsRow.holds Tryd.pinned (OpenSpec.ofChange superGetsSpec)

/-- ITS FALSE NEIGHBOUR: 'it returns false'. Refute it at one input. -/
def superGetsWrong : ChangeSpec := { name := "superGets", fn := fun _ => fun
  | [d] => { results := [.lit (.bool false)], args := [d] }
  | _ => none }
def SuperGetsWrongFalsely : Prop := superGetsRow.holds Tryd.pinned (OpenSpec.ofChange superGetsWrong)

/-- 'mothballlaw05.SuperTurns': WHATEVER THE INPUT: true; the input reads as it did. -/
def superTurnsSpec : ChangeSpec := { name := "superTurns", fn := fun _ => fun
  | [d1, d2, d3] => { results := [.lit (.bool true)], args := [d1, d2, d3] }
  | _ => none }
def superTurnsRow : OpenClaim := { program := "ytgbibhbmcbbbhaadoor", sum := "0192e8de48d106bcf43d05df2dc8d126280556be3484e32c54e4af5ee5380881", func := "mothball/mothballlaw05.SuperTurns", spec := "superTurns", unfollowed := true, recurses := true, named := ["mothball/crc.steps"], apart := false, laid := [("mothball/crc.steps", laid_mothball_crc_steps)] }
def SuperTurnsSaid : Prop := superTurnsRow.holds Tryd.pinned (OpenSpec.ofChange superTurnsSpec)

/-- ITS FALSE NEIGHBOUR: 'it returns false'. Refute it at one input. -/
def superTurnsWrong : ChangeSpec := { name := "superTurns", fn := fun _ => fun
  | [d1, d2, d3] => { results := [.lit (.bool false)], args := [d1, d2, d3] }
  | _ => none }
def SuperTurnsWrongFalsely : Prop := superTurnsRow.holds Tryd.pinned (OpenSpec.ofChange superTurnsWrong)

/-- 'mothballlaw05.SuperTurned': WHATEVER THE INPUT: true; the input reads as it did. -/
def superTurnedSpec : ChangeSpec := { name := "superTurned", fn := fun _ => fun
  | [d1, d2, d3] => { results := [.lit (.bool true)], args := [d1, d2, d3] }
  | _ => none }
def superTurnedRow : OpenClaim := { program := "ytgbibhbmcbbbhaadoor", sum := "0192e8de48d106bcf43d05df2dc8d126280556be3484e32c54e4af5ee5380881", func := "mothball/mothballlaw05.SuperTurned", spec := "superTurned", unfollowed := true, recurses := true, named := ["mothball/crc.steps"], apart := false, laid := [("mothball/crc.steps", laid_mothball_crc_steps)] }
def SuperTurnedSaid : Prop := superTurnedRow.holds Tryd.pinned (OpenSpec.ofChange superTurnedSpec)

/-- ITS FALSE NEIGHBOUR: 'it returns false'. Refute it at one input. -/
def superTurnedWrong : ChangeSpec := { name := "superTurned", fn := fun _ => fun
  | [d1, d2, d3] => { results := [.lit (.bool false)], args := [d1, d2, d3] }
  | _ => none }
def SuperTurnedWrongFalsely : Prop := superTurnedRow.holds Tryd.pinned (OpenSpec.ofChange superTurnedWrong)

/-- 'mothballlaw05.SuperTorn': WHATEVER THE INPUT: true; the input reads as it did. -/
def superTornSpec : ChangeSpec := { name := "superTorn", fn := fun _ => fun
  | [d1, d2, d3] => { results := [.lit (.bool true)], args := [d1, d2, d3] }
  | _ => none }
def superTornRow : OpenClaim := { program := "ytgbibhbmcbbbhaadoor", sum := "0192e8de48d106bcf43d05df2dc8d126280556be3484e32c54e4af5ee5380881", func := "mothball/mothballlaw05.SuperTorn", spec := "superTorn", unfollowed := true, recurses := true, named := ["mothball/crc.steps"], apart := false, laid := [("mothball/crc.steps", laid_mothball_crc_steps)] }
def SuperTornSaid : Prop := superTornRow.holds Tryd.pinned (OpenSpec.ofChange superTornSpec)

/-- ITS FALSE NEIGHBOUR: 'it returns false'. Refute it at one input. -/
def superTornWrong : ChangeSpec := { name := "superTorn", fn := fun _ => fun
  | [d1, d2, d3] => { results := [.lit (.bool false)], args := [d1, d2, d3] }
  | _ => none }
def SuperTornWrongFalsely : Prop := superTornRow.holds Tryd.pinned (OpenSpec.ofChange superTornWrong)

/- THE SECOND FORM. 'bulk': how many values and letters a reading holds, each counted each time it is reached (what is shared counts as often as it is met; a slice's spare places count too). A statement '..UptoSaid' is the law's where the arguments, and the package variables that the reading takes, are together of bulk at most 1048576: NARROWER than '..Said'. Prove '..Said' where nothing that the law and all that it calls make is longer than what came in: it says more and counts as full. Else prove '..UptoSaid'. A law counts once. -/
mutual
def uptoBulk {H : Type} : DataW H → Nat
  | .lit (.string bytes) => bytes.length + 1
  | .lit _ => 1
  | .nil => 1
  | .ptr d => uptoBulk d + 1
  | .slice elems spare => uptoBulkAll elems + uptoBulkAll spare + 1
  | .agg parts => uptoBulkAll parts + 1
  | .iface _ d => uptoBulk d + 1
  | .map entries => uptoBulkEntries entries + 1
  | .held _ => 1
def uptoBulkAll {H : Type} : List (DataW H) → Nat
  | [] => 0
  | d :: r => uptoBulk d + uptoBulkAll r
def uptoBulkEntries {H : Type} : List (Lit × DataW H) → Nat
  | [] => 0
  | x :: r => uptoBulkEntry x + uptoBulkEntries r
def uptoBulkEntry {H : Type} : Lit × DataW H → Nat
  | (.string bytes, d) => bytes.length + uptoBulk d + 1
  | (_, d) => uptoBulk d + 1
 end
def uptoSmall : (H : Type) → List (DataW H) → Bool := fun _ ds => decide (uptoBulkAll ds ≤ 1048576)
def OpenSpec.upto (s : _root_.Go.ChangeSpec) : _root_.Go.OpenSpec := { _root_.Go.OpenSpec.ofChange s with cond := some uptoSmall }

/-- 'mothballlaw05.SuperPuts', WHERE WHAT IT READS IS OF BULK AT MOST 1048576: true; the input reads as it did. -/
def superPutsUptoRow : OpenClaim := { program := "ytgbibhbmcbbbhaadoor", sum := "0192e8de48d106bcf43d05df2dc8d126280556be3484e32c54e4af5ee5380881", func := "mothball/mothballlaw05.SuperPuts", spec := "superPuts", unfollowed := true, recurses := true, named := ["mothball/crc.steps"], apart := false, laid := [("mothball/crc.steps", laid_mothball_crc_steps)], narrowed := true }
def SuperPutsUptoSaid : Prop := superPutsUptoRow.holds Tryd.pinned (OpenSpec.upto superPutsSpec)

/-- 'mothballlaw05.SuperGets', WHERE WHAT IT READS IS OF BULK AT MOST 1048576: true; the input reads as it did. -/
def superGetsUptoRow : OpenClaim := { program := "ytgbibhbmcbbbhaadoor", sum := "0192e8de48d106bcf43d05df2dc8d126280556be3484e32c54e4af5ee5380881", func := "mothball/mothballlaw05.SuperGets", spec := "superGets", unfollowed := true, recurses := true, named := ["mothball/crc.steps"], apart := false, laid := [("mothball/crc.steps", laid_mothball_crc_steps)], narrowed := true }
def SuperGetsUptoSaid : Prop := superGetsUptoRow.holds Tryd.pinned (OpenSpec.upto superGetsSpec)

/-- 'mothballlaw05.SuperTurns', WHERE WHAT IT READS IS OF BULK AT MOST 1048576: true; the input reads as it did. -/
def superTurnsUptoRow : OpenClaim := { program := "ytgbibhbmcbbbhaadoor", sum := "0192e8de48d106bcf43d05df2dc8d126280556be3484e32c54e4af5ee5380881", func := "mothball/mothballlaw05.SuperTurns", spec := "superTurns", unfollowed := true, recurses := true, named := ["mothball/crc.steps"], apart := false, laid := [("mothball/crc.steps", laid_mothball_crc_steps)], narrowed := true }
def SuperTurnsUptoSaid : Prop := superTurnsUptoRow.holds Tryd.pinned (OpenSpec.upto superTurnsSpec)

/-- 'mothballlaw05.SuperTurned', WHERE WHAT IT READS IS OF BULK AT MOST 1048576: true; the input reads as it did. -/
def superTurnedUptoRow : OpenClaim := { program := "ytgbibhbmcbbbhaadoor", sum := "0192e8de48d106bcf43d05df2dc8d126280556be3484e32c54e4af5ee5380881", func := "mothball/mothballlaw05.SuperTurned", spec := "superTurned", unfollowed := true, recurses := true, named := ["mothball/crc.steps"], apart := false, laid := [("mothball/crc.steps", laid_mothball_crc_steps)], narrowed := true }
def SuperTurnedUptoSaid : Prop := superTurnedUptoRow.holds Tryd.pinned (OpenSpec.upto superTurnedSpec)

/-- 'mothballlaw05.SuperTorn', WHERE WHAT IT READS IS OF BULK AT MOST 1048576: true; the input reads as it did. -/
def superTornUptoRow : OpenClaim := { program := "ytgbibhbmcbbbhaadoor", sum := "0192e8de48d106bcf43d05df2dc8d126280556be3484e32c54e4af5ee5380881", func := "mothball/mothballlaw05.SuperTorn", spec := "superTorn", unfollowed := true, recurses := true, named := ["mothball/crc.steps"], apart := false, laid := [("mothball/crc.steps", laid_mothball_crc_steps)], narrowed := true }
def SuperTornUptoSaid : Prop := superTornUptoRow.holds Tryd.pinned (OpenSpec.upto superTornSpec)

end Rows
end Go.Proofs.YtgbibhbmcbbbhaaDoor
