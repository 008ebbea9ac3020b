/- The law RecordSectors over the landed Sectors. -/
import Derived.Test.YtndeknkfljnjoaaWalkSect6
import Derived.Test.YtndeknkfljnjoaaLawSectors6
namespace Go.Proofs.Ytndeknkfljnjoaa
open Go.RowKit
theorem sectorsOk6 : SectorsOk := fun n w h1 h2 => (sectors6 n w h1 h2).mono fun e w' ⟨h, k⟩ => ⟨h, by rw [k]; exact Below.refl _ _⟩
theorem recordSectors_walk (n : Int) (w : World) (hn : (Lit.int .i64 n).wf = true) : Calls Try.prog 3 #[.int .i64 n] w fun e w' => e = .returned (.bool true) ∧ Below w.heap.size w w' := recordSectors_of sectorsOk6 n w hn
end Go.Proofs.Ytndeknkfljnjoaa
