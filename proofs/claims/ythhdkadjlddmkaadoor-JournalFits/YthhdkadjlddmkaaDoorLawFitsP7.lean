/- The law JournalFits over the landed package. -/
import Derived.Test.YthhdkadjlddmkaaDoorLawFits7b
import Derived.Test.YthhdkadjlddmkaaDoorJrnW
namespace Go.Proofs.YthhdkadjlddmkaaDoor
open Go.RowKit
theorem journalFits_walk (a0 : Int) (a1 : Option Addr) (len1 cap1 : Nat) (z1 : List Int) (w : World) (ht : Steps w) (f0 : (Lit.int .i64 a0).wf = true) (f1 : IsRow .u16 w a1 len1 cap1 z1) :
    Calls Tryd.prog 5 #[.int .i64 a0, .slice a1 len1 cap1] w fun x w' => x = .returned (.bool true) ∧ Below w.heap.size w w' :=
  journalFits_of jops a0 a1 len1 cap1 z1 w ht f0 f1
end Go.Proofs.YthhdkadjlddmkaaDoor
