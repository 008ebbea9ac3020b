/- The law RecordTurned over the landed package. -/
import Derived.Test.YtndeknkfljnjoaaDoorLawTurned6
import Derived.Test.YtndeknkfljnjoaaDoorProg6
namespace Go.Proofs.YtndeknkfljnjoaaDoor
open Go.RowKit
theorem recordTurned_walk (a0 : Option Addr) (len0 cap0 : Nat) (z0 : List Int) (a1 : Int) (a2 : Int) (w : World) (ht : Steps w) (f0 : IsRow .u8 w a0 len0 cap0 z0) (f1 : (Lit.int .i64 a1).wf = true) (f2 : (Lit.int .u8 a2).wf = true) :
    Calls Tryd.prog 6 #[.slice a0 len0 cap0, .int .i64 a1, .int .u8 a2] w fun x w' => x = .returned (.bool true) ∧ Below w.heap.size w w' :=
  recordTurned_of rec6 a0 len0 cap0 z0 a1 a2 w ht f0 f1 f2
end Go.Proofs.YtndeknkfljnjoaaDoor
