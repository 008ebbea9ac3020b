/- The law EntrySums over the landed package. -/
import Derived.Test.YtfclhehpbniapaaDoorLawSums11
import Derived.Test.YtfclhehpbniapaaDoorEntryD11
namespace Go.Proofs.YtfclhehpbniapaaDoor
open Go.RowKit
theorem entrySums_walk (y0 : Ky) (a1 : Int) (a2 : Option Addr) (len2 cap2 : Nat) (z2 : List Int) (w : World) (ht : Steps w) (f0 : KI y0) (f1 : (Lit.int .i64 a1).wf = true) (f2 : IsRow .u8 w a2 len2 cap2 z2) :
    Calls Tryd.prog 3 #[.agg #[.int .i64 y0.1, .int .i64 y0.2], .int .i64 a1, .slice a2 len2 cap2] w fun e w' => e = .returned (.bool true) ∧ Below w.heap.size w w' :=
  entrySums_of entryD y0 a1 a2 len2 cap2 z2 w ht f0 f1 f2
end Go.Proofs.YtfclhehpbniapaaDoor
