/- The law JournalElder over the landed package. -/
import Derived.Test.YthhdkadjlddmkaaDoorLawElder7
import Derived.Test.YthhdkadjlddmkaaDoorJrnW
namespace Go.Proofs.YthhdkadjlddmkaaDoor
open Go.RowKit
theorem journalElder_walk (a0 a1 : Int) (a2 : Option Addr) (len2 cap2 : Nat) (z2 : List Int) (w : World) (ht : Steps w) (f0 : (Lit.int .i64 a0).wf = true) (f1 : (Lit.int .i64 a1).wf = true) (f2 : IsRow .u16 w a2 len2 cap2 z2) :
    Calls Tryd.prog 6 #[.int .i64 a0, .int .i64 a1, .slice a2 len2 cap2] w fun x w' => x = .returned (.bool true) ∧ Below w.heap.size w w' :=
  journalElder_of jops a0 a1 a2 len2 cap2 z2 w ht f0 f1 f2
end Go.Proofs.YthhdkadjlddmkaaDoor
