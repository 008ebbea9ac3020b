/- The bundle over the landed package: the laws' first lines, a page's sum. -/
import Derived.Test.YtfclhehpbniapaaDoorBundle11
import Derived.Test.YtfclhehpbniapaaDoorWalkSum11
import Derived.Test.YtfclhehpbniapaaDoorGet11J
namespace Go.Proofs.YtfclhehpbniapaaDoor
open Go.RowKit
set_option linter.unusedVariables false
theorem entryD : EntryD := ⟨fun w _ => awake11 w, fun w h p g v zs _ _ _ ht hv hl => sum11_row w h p g v zs ht hv hl⟩
end Go.Proofs.YtfclhehpbniapaaDoor
