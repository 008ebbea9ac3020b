/- The law RecordCuts over the landed package. -/
import Derived.Test.YtndeknkfljnjoaaDoorLawCuts6
import Derived.Test.YtndeknkfljnjoaaDoorProg6
namespace Go.Proofs.YtndeknkfljnjoaaDoor
open Go.RowKit
theorem recordCuts_walk (z0 : List Int) (a1 : Option Addr) (len1 cap1 : Nat) (z1 : List Int) (a2 : Option Addr) (len2 cap2 : Nat) (z2 : List Int) (w : World) (ht : Steps w) (g0 : z0.length = 2) (f0 : ∀ z ∈ z0, (Lit.int .i64 z).wf = true) (f1 : IsRow .u8 w a1 len1 cap1 z1) (f2 : IsRow .u8 w a2 len2 cap2 z2) :
    Calls Tryd.prog 4 #[.agg (z0.map (Value.int .i64)).toArray, .slice a1 len1 cap1, .slice a2 len2 cap2] w fun x w' => x = .returned (.bool true) ∧ Below w.heap.size w w' :=
  recordCuts_of rec6 z0 a1 len1 cap1 z1 a2 len2 cap2 z2 w ht g0 f0 f1 f2
end Go.Proofs.YtndeknkfljnjoaaDoor
