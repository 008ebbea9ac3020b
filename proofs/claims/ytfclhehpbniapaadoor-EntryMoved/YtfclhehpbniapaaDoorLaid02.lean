/- What the rows' list gives: the program's table, cell for cell; a world for the witness, in which it lies so. -/
import Derived.Test.YtfclhehpbniapaaDoorRows
import Derived.Test.YtfclhehpbniapaaDoorWalkTake
import Derived.Lib.LaidTab
import Derived.ProofKit
namespace Go.Proofs.YtfclhehpbniapaaDoor
open Go.RowKit
set_option linter.unusedVariables false

theorem gTab : Tryd.prog.globalNamed "mothball/crc.steps" = some 0 := by kernel_rfl
theorem gTabType : (Tryd.prog.globals[0]?).map (·.type) = some 71 := by kernel_rfl
theorem cellsTab : Tryd.prog.cellsOf 71 = 16 := by kernel_rfl
theorem cellsU32 : Tryd.prog.cellsOf 26 = 1 := by kernel_rfl

theorem table {W : World} (h : laidMetH Tryd.prog [("mothball/crc.steps", Rows.laid_mothball_crc_steps)] W) : Lib.TabIs Tryd.prog W "mothball/crc.steps" .u32 (crcTab.map Int.ofNat) :=
  Lib.tabIs_of_head (rest := []) gTab gTabType Tryd.underlying71 Tryd.underlying26 cellsU32 cellsTab h
theorem steps_of_laid {W : World} (h : laidMetH Tryd.prog [("mothball/crc.steps", Rows.laid_mothball_crc_steps)] W) : Steps W := by
  intro k hk
  have := (table h).cell gTab k (by simp [crcTab]; omega)
  rw [this]
  have hk' : k < crcTab.length := by simp [crcTab]; omega
  simp [crcT, List.getD, List.getElem?_map, List.getElem?_eq_getElem hk']

/-- A world for the witness: the settled one, the table holding what its initialiser lays. -/
def laidW (P : Program) (os : Os) : World :=
  { World.holding P os ⟨#[], #[], []⟩ with heap := (World.holding P os ⟨#[], #[], []⟩).heap.modify 0 fun
      | .cells _ t frozen => .cells #[.int .u32 0, .int .u32 498536548, .int .u32 997073096, .int .u32 651767980, .int .u32 1994146192, .int .u32 1802195444, .int .u32 1303535960, .int .u32 1342533948, .int .u32 3988292384, .int .u32 4027552580, .int .u32 3604390888, .int .u32 3412177804, .int .u32 2607071920, .int .u32 2262029012, .int .u32 2685067896, .int .u32 3183342108] t frozen
      | o => o }
end Go.Proofs.YtfclhehpbniapaaDoor
