/- The law EntryMoved over the landed package. -/
import Derived.Test.YtfclhehpbniapaaDoorLawMoved11
import Derived.Test.YtfclhehpbniapaaDoorEntryD11
namespace Go.Proofs.YtfclhehpbniapaaDoor
open Go.RowKit
theorem entryMoved_walk (y0 y1 : Ky) (z2 : List Int) (w : World) (ht : Steps w) (f0 : KI y0) (f1 : KI y1) (g2 : z2.length = 2) (f2 : ∀ z ∈ z2, (Lit.int .i64 z).wf = true) :
    Calls Tryd.prog 4 #[.agg #[.int .i64 y0.1, .int .i64 y0.2], .agg #[.int .i64 y1.1, .int .i64 y1.2], .agg (z2.map (Value.int .i64)).toArray] w fun e w' => e = .returned (.bool true) ∧ Below w.heap.size w w' :=
  entryMoved_of entryD y0 y1 z2 w ht f0 f1 g2 f2
end Go.Proofs.YtfclhehpbniapaaDoor
