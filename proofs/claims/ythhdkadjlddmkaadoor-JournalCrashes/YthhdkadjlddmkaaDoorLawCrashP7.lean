/- The law JournalCrashes over the landed package. -/
import Derived.Test.YthhdkadjlddmkaaDoorLawCrash7
import Derived.Test.YthhdkadjlddmkaaDoorJrnW
namespace Go.Proofs.YthhdkadjlddmkaaDoor
open Go.RowKit
theorem journalCrashes_walk (a0 : Int) (a1 : Option Addr) (len1 cap1 : Nat) (c1 : List Ac) (w : World) (ht : Steps w) (f0 : (Lit.int .i64 a0).wf = true) (f1 : Acts w (.slice a1 len1 cap1) c1) :
    Calls Tryd.prog 3 #[.int .i64 a0, .slice a1 len1 cap1] w fun x w' => x = .returned (.bool true) ∧ Below w.heap.size w w' :=
  journalCrashes_of jops a0 a1 len1 cap1 c1 w ht f0 f1
end Go.Proofs.YthhdkadjlddmkaaDoor
