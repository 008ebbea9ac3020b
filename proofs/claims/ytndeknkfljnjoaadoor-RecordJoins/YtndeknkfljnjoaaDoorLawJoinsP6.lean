/- The law RecordJoins over the landed package. -/
import Derived.Test.YtndeknkfljnjoaaDoorLawJoins6
import Derived.Test.YtndeknkfljnjoaaDoorProg6
namespace Go.Proofs.YtndeknkfljnjoaaDoor
open Go.RowKit
theorem recordJoins_walk (a0 : Option Addr) (len0 cap0 : Nat) (z0 : List Int) (z1 : List Int) (w : World) (ht : Steps w) (f0 : IsRow .u8 w a0 len0 cap0 z0) (g1 : z1.length = 2) (f1 : ∀ z ∈ z1, (Lit.int .i64 z).wf = true) :
    Calls Tryd.prog 5 #[.slice a0 len0 cap0, .agg (z1.map (Value.int .i64)).toArray] w fun x w' => x = .returned (.bool true) ∧ Below w.heap.size w w' :=
  recordJoins_of rec6 a0 len0 cap0 z0 z1 w ht f0 g1 f1
end Go.Proofs.YtndeknkfljnjoaaDoor
