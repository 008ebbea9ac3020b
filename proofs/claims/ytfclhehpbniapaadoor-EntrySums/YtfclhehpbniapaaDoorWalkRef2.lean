/- Contracts of the reference's 'Seal' and 'All'. -/
import Derived.Test.YtfclhehpbniapaaDoorWalkSeal
namespace Go.Proofs.YtfclhehpbniapaaDoor
open Go.RowKit
set_option linter.unusedVariables false

theorem ret_str {a b : ByteArray} (h : a = b) : Ending.returned (.string a) = .returned (.string b) := by rw [h]
theorem cells_four (s : Nat) (h : s < 4294967296) : (u8s (octN s)).toArray = #[Value.int .u8 ((s : Int) % 256), .int .u8 ((s : Int) / 256 % 256), .int .u8 ((s : Int) / 65536 % 256), .int .u8 ((s : Int) / 16777216)] := by
  have e : s / 16777216 % 256 = s / 16777216 := by omega
  simp [u8s, octN, e]
theorem conv_four (s : Nat) (w : World) (h : s < 4294967296) :
    (convert 24 9 (.slice (some ⟨w.heap.size, 0, none⟩) 4 4)).run Tryd.prog (w.alloc (.cells #[Value.int .u8 ((s : Int) % 256), .int .u8 ((s : Int) / 256 % 256), .int .u8 ((s : Int) / 65536 % 256), .int .u8 ((s : Int) / 16777216)] 5)) =
      .ok (.string (strN (octN s))) (w.alloc (.cells #[Value.int .u8 ((s : Int) % 256), .int .u8 ((s : Int) / 256 % 256), .int .u8 ((s : Int) / 65536 % 256), .int .u8 ((s : Int) / 16777216)] 5)) := by
  rw [← cells_four s h]
  exact conv_octs (octs_new w (octN s) 5 (octN_small s) (by simp [octN, maxLen])) 24 5 9 Tryd.underlying24 Tryd.underlying5 Tryd.underlying9

end Go.Proofs.YtfclhehpbniapaaDoor
