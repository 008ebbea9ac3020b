/-
  No cell of these rows narrows 'for every input' (looked for: loops, veiled, ifaces, maps, wideKeys, modest, calm, conditions, laid).
  DERIVED. THE GIVEN ROWS OF THIS SEAT. 4 by the template 'for every input the law returns true; each argument reads behind the call as it read before'; 0 by the template 'total and deterministic' (their statements: YtpnncdidbifbaaaTotals.lean).
  GIVEN WITH THE SEED: the statements are not yours to turn. If you find one false, say at which input.
  Laid BY PROGRAM, IN A SANDBOX (cutbox-rows.mjs): the forced cells as the released guide's own fill.sh prints them over the translation 0210f7abd01a4498… (all of the seat's roots in one cut). By AI agents, Wed Nov 11 2026. No macro, syntax, notation, axiom, sorry.
-/
import Derived.Test.YtpnncdidbifbaaaChecked
import GoSem.Claim
import GoSem.ClaimJoined
import GoSem.ClaimMapViews
import Derived.JoinedTies
import Derived.KernelRfl
namespace Go.Proofs.Ytpnncdidbifbaaa
/- THE CELL 'sum', in the pinned program and in every row, IS THE sha256 OF THE DUMP (.gsa) THAT YtpnncdidbifbaaaProg.lean LOADS. Nothing in Lean hashes anything: it is a label: what it is worth is what the hold of that sum in a sandbox is worth. -/
noncomputable def Try.pinned : Pinned := { name := "ytpnncdidbifbaaa", sum := "0210f7abd01a4498c209544f4c5eda5147b3caa31e4f54e5fbd800cfe9f25759", checked := Try.checked }
namespace Rows
def none {H : Type} : Left H := { results := [], args := [] }

/-- 'mothballlaw10.KeyNumbers': WHATEVER THE INPUT: true; the input reads as it did. -/
def keyNumbersSpec : ChangeSpec := { name := "keyNumbers", fn := fun _ => fun
  | [d1, d2, d3] => { results := [.lit (.bool true)], args := [d1, d2, d3] }
  | _ => none }
def keyNumbersRow : OpenClaim := { program := "ytpnncdidbifbaaa", sum := "0210f7abd01a4498c209544f4c5eda5147b3caa31e4f54e5fbd800cfe9f25759", func := "mothball/mothballlaw10.KeyNumbers", spec := "keyNumbers", unfollowed := true, recurses := true, plainKeys := false, apart := false }
def KeyNumbersSaid : Prop := keyNumbersRow.holds Try.pinned (OpenSpec.ofChange keyNumbersSpec)

/-- ITS FALSE NEIGHBOUR: 'it returns false'. Refute it at one input. -/
def keyNumbersWrong : ChangeSpec := { name := "keyNumbers", fn := fun _ => fun
  | [d1, d2, d3] => { results := [.lit (.bool false)], args := [d1, d2, d3] }
  | _ => none }
def KeyNumbersWrongFalsely : Prop := keyNumbersRow.holds Try.pinned (OpenSpec.ofChange keyNumbersWrong)

/-- 'mothballlaw10.KeySorts': WHATEVER THE INPUT: true; the input reads as it did. -/
def keySortsSpec : ChangeSpec := { name := "keySorts", fn := fun _ => fun
  | [d1, d2] => { results := [.lit (.bool true)], args := [d1, d2] }
  | _ => none }
def keySortsRow : OpenClaim := { program := "ytpnncdidbifbaaa", sum := "0210f7abd01a4498c209544f4c5eda5147b3caa31e4f54e5fbd800cfe9f25759", func := "mothball/mothballlaw10.KeySorts", spec := "keySorts", unfollowed := true, recurses := true, plainKeys := false, apart := false }
def KeySortsSaid : Prop := keySortsRow.holds Try.pinned (OpenSpec.ofChange keySortsSpec)

/-- ITS FALSE NEIGHBOUR: 'it returns false'. Refute it at one input. -/
def keySortsWrong : ChangeSpec := { name := "keySorts", fn := fun _ => fun
  | [d1, d2] => { results := [.lit (.bool false)], args := [d1, d2] }
  | _ => none }
def KeySortsWrongFalsely : Prop := keySortsRow.holds Try.pinned (OpenSpec.ofChange keySortsWrong)

/-- 'mothballlaw10.KeyRuns': WHATEVER THE INPUT: true; the input reads as it did. -/
def keyRunsSpec : ChangeSpec := { name := "keyRuns", fn := fun _ => fun
  | [d] => { results := [.lit (.bool true)], args := [d] }
  | _ => none }
def keyRunsRow : OpenClaim := { program := "ytpnncdidbifbaaa", sum := "0210f7abd01a4498c209544f4c5eda5147b3caa31e4f54e5fbd800cfe9f25759", func := "mothball/mothballlaw10.KeyRuns", spec := "keyRuns", unfollowed := true, recurses := true, plainKeys := false, apart := false }
def KeyRunsSaid : Prop := keyRunsRow.holds Try.pinned (OpenSpec.ofChange keyRunsSpec)

/-- ITS FALSE NEIGHBOUR: 'it returns false'. Refute it at one input. -/
def keyRunsWrong : ChangeSpec := { name := "keyRuns", fn := fun _ => fun
  | [d] => { results := [.lit (.bool false)], args := [d] }
  | _ => none }
def KeyRunsWrongFalsely : Prop := keyRunsRow.holds Try.pinned (OpenSpec.ofChange keyRunsWrong)

/-- 'mothballlaw10.KeyApart': WHATEVER THE INPUT: true; the input reads as it did. -/
def keyApartSpec : ChangeSpec := { name := "keyApart", fn := fun _ => fun
  | [d] => { results := [.lit (.bool true)], args := [d] }
  | _ => none }
def keyApartRow : OpenClaim := { program := "ytpnncdidbifbaaa", sum := "0210f7abd01a4498c209544f4c5eda5147b3caa31e4f54e5fbd800cfe9f25759", func := "mothball/mothballlaw10.KeyApart", spec := "keyApart", unfollowed := true, recurses := true, plainKeys := false, apart := false }
def KeyApartSaid : Prop := keyApartRow.holds Try.pinned (OpenSpec.ofChange keyApartSpec)

/-- ITS FALSE NEIGHBOUR: 'it returns false'. Refute it at one input. -/
def keyApartWrong : ChangeSpec := { name := "keyApart", fn := fun _ => fun
  | [d] => { results := [.lit (.bool false)], args := [d] }
  | _ => none }
def KeyApartWrongFalsely : Prop := keyApartRow.holds Try.pinned (OpenSpec.ofChange keyApartWrong)

/- THE SECOND FORM. 'bulk': how many values and letters a reading holds, each counted each time it is reached (what is shared counts as often as it is met; a slice's spare places count too). A statement '..UptoSaid' is the law's where the arguments, and the package variables that the reading takes, are together of bulk at most 1048576: NARROWER than '..Said'. Prove '..Said' where nothing that the law and all that it calls make is longer than what came in: it says more and counts as full. Else prove '..UptoSaid'. A law counts once. -/
mutual
def uptoBulk {H : Type} : DataW H → Nat
  | .lit (.string bytes) => bytes.length + 1
  | .lit _ => 1
  | .nil => 1
  | .ptr d => uptoBulk d + 1
  | .slice elems spare => uptoBulkAll elems + uptoBulkAll spare + 1
  | .agg parts => uptoBulkAll parts + 1
  | .iface _ d => uptoBulk d + 1
  | .map entries => uptoBulkEntries entries + 1
  | .held _ => 1
def uptoBulkAll {H : Type} : List (DataW H) → Nat
  | [] => 0
  | d :: r => uptoBulk d + uptoBulkAll r
def uptoBulkEntries {H : Type} : List (Lit × DataW H) → Nat
  | [] => 0
  | x :: r => uptoBulkEntry x + uptoBulkEntries r
def uptoBulkEntry {H : Type} : Lit × DataW H → Nat
  | (.string bytes, d) => bytes.length + uptoBulk d + 1
  | (_, d) => uptoBulk d + 1
 end
def uptoSmall : (H : Type) → List (DataW H) → Bool := fun _ ds => decide (uptoBulkAll ds ≤ 1048576)
def OpenSpec.upto (s : _root_.Go.ChangeSpec) : _root_.Go.OpenSpec := { _root_.Go.OpenSpec.ofChange s with cond := some uptoSmall }

/-- 'mothballlaw10.KeyNumbers', WHERE WHAT IT READS IS OF BULK AT MOST 1048576: true; the input reads as it did. -/
def keyNumbersUptoRow : OpenClaim := { program := "ytpnncdidbifbaaa", sum := "0210f7abd01a4498c209544f4c5eda5147b3caa31e4f54e5fbd800cfe9f25759", func := "mothball/mothballlaw10.KeyNumbers", spec := "keyNumbers", unfollowed := true, recurses := true, plainKeys := false, apart := false, narrowed := true }
def KeyNumbersUptoSaid : Prop := keyNumbersUptoRow.holds Try.pinned (OpenSpec.upto keyNumbersSpec)

/-- 'mothballlaw10.KeySorts', WHERE WHAT IT READS IS OF BULK AT MOST 1048576: true; the input reads as it did. -/
def keySortsUptoRow : OpenClaim := { program := "ytpnncdidbifbaaa", sum := "0210f7abd01a4498c209544f4c5eda5147b3caa31e4f54e5fbd800cfe9f25759", func := "mothball/mothballlaw10.KeySorts", spec := "keySorts", unfollowed := true, recurses := true, plainKeys := false, apart := false, narrowed := true }
def KeySortsUptoSaid : Prop := keySortsUptoRow.holds Try.pinned (OpenSpec.upto keySortsSpec)

/-- 'mothballlaw10.KeyRuns', WHERE WHAT IT READS IS OF BULK AT MOST 1048576: true; the input reads as it did. -/
def keyRunsUptoRow : OpenClaim := { program := "ytpnncdidbifbaaa", sum := "0210f7abd01a4498c209544f4c5eda5147b3caa31e4f54e5fbd800cfe9f25759", func := "mothball/mothballlaw10.KeyRuns", spec := "keyRuns", unfollowed := true, recurses := true, plainKeys := false, apart := false, narrowed := true }
def KeyRunsUptoSaid : Prop := keyRunsUptoRow.holds Try.pinned (OpenSpec.upto keyRunsSpec)

/-- 'mothballlaw10.KeyApart', WHERE WHAT IT READS IS OF BULK AT MOST 1048576: true; the input reads as it did. -/
def keyApartUptoRow : OpenClaim := { program := "ytpnncdidbifbaaa", sum := "0210f7abd01a4498c209544f4c5eda5147b3caa31e4f54e5fbd800cfe9f25759", func := "mothball/mothballlaw10.KeyApart", spec := "keyApart", unfollowed := true, recurses := true, plainKeys := false, apart := false, narrowed := true }
def KeyApartUptoSaid : Prop := keyApartUptoRow.holds Try.pinned (OpenSpec.upto keyApartSpec)

end Rows
end Go.Proofs.Ytpnncdidbifbaaa
