/- The law RecordParts over the landed package. -/
import Derived.Test.YtndeknkfljnjoaaDoorLawParts6
import Derived.Test.YtndeknkfljnjoaaDoorProg6
namespace Go.Proofs.YtndeknkfljnjoaaDoor
open Go.RowKit
theorem recordParts_walk (F0 : Bool) (E0 N0 I0 : Int) (a0 : Option Addr) (len0 cap0 : Nat) (z0 : List Int) (a1 : Option Addr) (len1 cap1 : Nat) (z1 : List Int) (w : World) (ht : Steps w)
    (fe : (Lit.int .i64 E0).wf = true) (fn : (Lit.int .i64 N0).wf = true) (fi : (Lit.int .i64 I0).wf = true) (f0 : IsRow .u8 w a0 len0 cap0 z0) (f1 : IsRow .u8 w a1 len1 cap1 z1) :
    Calls Tryd.prog 3 #[.agg #[.bool F0, .int .i64 E0, .int .i64 N0, .int .i64 I0, .slice a0 len0 cap0], .slice a1 len1 cap1] w fun x w' => x = .returned (.bool true) ∧ Below w.heap.size w w' :=
  recordParts_of rec6 F0 E0 N0 I0 a0 len0 cap0 z0 a1 len1 cap1 z1 w ht fe fn fi f0 f1
end Go.Proofs.YtndeknkfljnjoaaDoor
