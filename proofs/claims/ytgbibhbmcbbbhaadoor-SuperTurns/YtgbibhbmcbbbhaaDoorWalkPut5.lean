/- Contract of 'Put'. -/
import Derived.Test.YtgbibhbmcbbbhaaDoorWalkLaid5
namespace Go.Proofs.YtgbibhbmcbbbhaaDoor
open Go.RowKit
set_option linter.unusedVariables false

theorem put_no (s : Sup) (hf : s.Fits) (hok : okS s = false) (w : World) : Calls Tryd.prog 9 #[sval s] w fun e w' => e = .returned (.tuple #[.slice none 0 0, .int .i64 2]) ∧ Below w.heap.size w w' := by
  have HF : Hid s.Fits := hf
  clear hf
  go_enter Tryd.func9, Tryd.ntmps9
  go_wp2_with fail
  refine (right5 s HF.out _).mono ?_
  rintro e w1 ⟨rfl, hb1⟩
  have HB1 : Hid (Below w.heap.size w w1) := ((Below.refl _ _).alloc (Nat.le_refl _) _).trans (hb1.mono (by simp))
  clear hb1
  rw [hok]
  go_wp2
  go_ret2
  exact ⟨rfl, HB1.out⟩

set_option maxHeartbeats 400000 in
theorem put_ok (s : Sup) (hf : s.Fits) (hok : okS s = true) (w : World) (ht : Steps w) : Calls Tryd.prog 9 #[sval s] w fun e w' => ∃ p, e = .returned (.tuple #[.slice (some ⟨p, 0, none⟩) 128 128, .int .i64 0]) ∧ w'.heap[p]? = some (.cells (u8s (sect s)).toArray 43 (0, 0)) ∧ w.heap.size ≤ p ∧ Below w.heap.size w w' := by
  have HF : Hid s.Fits := hf
  have HT : Hid (Steps w) := ht
  clear hf ht
  have hz43 := Tryd.zero43
  obtain ⟨Z1, hZ1⟩ : ∃ Z, Z = zl 128 := ⟨_, rfl⟩
  rw [← hZ1] at hz43
  have HZL : Hid (Z1.length = 128) := by unfold Hid; rw [hZ1, zl_length]
  obtain ⟨X, hX⟩ : ∃ X, X = sect s := ⟨_, rfl⟩
  have HX : Hid (sect s = X) := hX.symm
  have HXL : Hid (X.length = 128) := by unfold Hid; rw [hX, sect_length]
  rw [← hX]
  clear hZ1 hX
  go_enter Tryd.func9, Tryd.ntmps9
  go_wp2_with fail
  refine (right5 s HF.out _).mono ?_
  rintro e w1 ⟨rfl, hb1⟩
  have F1 : Hid (SupAt w1 w.heap.size s) := SupAt.same (heap_alloc_new w _) hb1 (by simp)
  have HB1 : Hid (Below w.heap.size w w1) := ((Below.refl _ _).alloc (Nat.le_refl _) _).trans (hb1.mono (by simp))
  clear hb1
  rw [hok]
  obtain ⟨k0, k1, k2, k3, k4, k5, k6, k7⟩ := F1.out.cells
  go_wp2_with fail
  refine (laid5 s HF.out _ (HT.out.below HB1.out)).mono ?_
  rintro e w2 ⟨rfl, hb2⟩
  have HB2 : Hid (Below w.heap.size w w2) := HB1.out.trans (hb2.mono HB1.out.size)
  have HS2 : Hid (w.heap.size ≤ w2.heap.size) := HB2.out.size
  rw [HX.out]
  clear hb2 k0 k1 k2 k3 k4 k5 k6 k7
  go_wp2_with (with_reducible show wpList _ _ _ (Oper.mk _ (Op.store _ _ _) _ _ _ _ :: _) _ _; go_must (refine wpList_store_last5 rfl 43 _ _ rfl w2 _ rfl (u8s X).toArray rfl rfl (by rw [List.size_toArray, u8s_length, HXL.out]; exact Tryd.size43) (by rw [List.size_toArray, List.size_toArray, u8s_length, u8s_length, HXL.out, HZL.out]) (all_oneCell_toArray (u8s_one X)) ?_))
  go_wp2
  go_ret2
  exact ⟨w2.heap.size, rfl, heap_alloc_new _ _, HS2.out, HB2.out.alloc HS2.out _⟩
end Go.Proofs.YtgbibhbmcbbbhaaDoor
