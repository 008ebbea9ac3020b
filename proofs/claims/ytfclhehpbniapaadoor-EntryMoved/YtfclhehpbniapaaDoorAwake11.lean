/- The laws' first lines: the document's examples. -/
import Derived.Test.YtfclhehpbniapaaDoorWalkPut11
import Derived.Test.YtfclhehpbniapaaDoorWalkGet11
namespace Go.Proofs.YtfclhehpbniapaaDoor
open Go.RowKit
set_option linter.unusedVariables false

theorem put_none : strN (putM []) = ⟨#[0, 0, 0, 0]⟩ := by decide +kernel
theorem get_noughts (n : Int) : getM n [0, 0, 0, 0] = some [] := by
  rw [getM_right (by decide +kernel), show cntG [0, 0, 0, 0] = 0 by decide +kernel]
  rfl
theorem octs_nought (w : World) : Octs (w.alloc (.cells #[.int .u8 0, .int .u8 0, .int .u8 0, .int .u8 0] 5)) (.slice (some ⟨w.heap.size, 0, none⟩) 4 4) [0, 0, 0, 0] :=
  octs_new w [0, 0, 0, 0] 5 (by decide) (by decide)
set_option maxRecDepth 20000 in
set_option maxHeartbeats 1000000 in
theorem awake11 (w : World) : Calls Tryd.prog 5 #[] w fun e w' => e = .returned (.bool true) ∧ Below w.heap.size w w' := by
  have HG : Hid (Calls Tryd.prog 9 #[.int .i64 5, .slice (some ⟨w.heap.size, 0, none⟩) 4 4] (w.alloc (.cells #[.int .u8 0, .int .u8 0, .int .u8 0, .int .u8 0] 5)) fun e w' => ∃ u, e = .returned (.tuple #[u, .int .i64 4]) ∧ Below w.heap.size w w') := by
    refine (get11_any _ 5 _ _ (octs_nought w) (by decide)).mono ?_
    rintro e w' ⟨u, rfl, -, hb⟩
    rw [get_noughts]
    exact ⟨u, rfl, ((Below.refl _ _).alloc (Nat.le_refl _) _).trans (hb.mono (by simp))⟩
  go_enter Tryd.func5, Tryd.ntmps5
  go_wp2_with fail
  refine HG.out.mono ?_
  rintro e w1 ⟨u, rfl, hb1⟩
  have HB1 : Hid (Below w.heap.size w w1) := hb1
  clear hb1 HG
  go_wp2_with fail
  refine (put11_any w1 _ [] (Els.nil w1) (by simp) (by simp)).mono ?_
  rintro e w2 ⟨v, rfl, ho, hb2⟩
  have HB2 : Hid (Below w.heap.size w w2) := HB1.out.trans (hb2.mono HB1.out.size)
  have hcv := conv_octs (P := Tryd.prog) ho _ _ _ Tryd.underlying24 Tryd.underlying5 Tryd.underlying9
  rw [put_none] at hcv
  obtain ⟨a, ca, rfl⟩ := ho.shape
  clear ho hb2 HB1
  go_wp2
  go_ret
  exact ⟨rfl, HB2.out⟩
end Go.Proofs.YtfclhehpbniapaaDoor
