/- Contract of 'two'. -/
import Derived.Test.YtgbibhbmcbbbhaaDoorWalkGet5
namespace Go.Proofs.YtgbibhbmcbbbhaaDoor
open Go.RowKit
set_option linter.unusedVariables false

theorem Tryd.zero50 (w : World) : (zeroValue 50).run Tryd.prog w = .ok (.agg (u8s (zl 256)).toArray) w := by
  rw [← rep_u8s]; exact (zero_of_info (n := 256) (by kernel_rfl)).1 w
theorem Tryd.size50 : (Tryd.prog.info? 50).map (·.size) = some 256 := by kernel_rfl
/-- The two sectors' octets. -/
def twoL (zs : List Nat) : List Nat := if zs.length = 256 then zs else zl 256
theorem twoL_length (zs : List Nat) : (twoL zs).length = 256 := by unfold twoL; split <;> simp_all [zl_length]
theorem twoL_small {zs : List Nat} (h : ∀ z ∈ zs, z < 256) : ∀ z ∈ twoL zs, z < 256 := by unfold twoL; split; exact h; exact zl_small _
theorem Octs.from {w : World} {b off n cap : Nat} {zs : List Nat} (h : Octs w (.slice (some ⟨b, off, none⟩) n cap) zs) (hb : b < w.heap.size) (ha : OctAt w b off zs) (k : Nat) (hk : k ≤ n) : Octs w (.slice (some ⟨b, off + k, none⟩) (n - k) (cap - k)) (zs.drop k) := by
  have hl := h.lenEq
  obtain ⟨h1, h2, a, cap', e, h3, h4, h5⟩ := h
  simp only [Value.slice.injEq] at e
  obtain ⟨_, e2, rfl⟩ := e
  refine ⟨fun z hz => h1 z (List.mem_of_mem_drop hz), by rw [List.length_drop]; omega, _, cap - k, by rw [List.length_drop]; congr 1; omega, by rw [List.length_drop]; omega, by omega, .inr ⟨_, rfl, .inr ⟨b, off + k, rfl, hb, ?_⟩⟩⟩
  intro j hj
  rw [List.length_drop] at hj
  have := ha (k + j) (by omega)
  rw [show off + k + j = off + (k + j) by omega, this]
  simp

theorem splice_one (Z zs : List Nat) : splice (splice Z 0 (zs.take (128 * 0))) 0 (zs.take 128) = splice Z 0 (zs.take (128 * (0 + 1))) := by simp [splice]
theorem splice_two (Z zs : List Nat) (hz : zs.length = 256) (hZ : Z.length = 256) : splice (splice Z 0 (zs.take (128 * 1))) 128 ((zs.drop 128).take 128) = splice Z 0 (zs.take (128 * (1 + 1))) := by
  have e1 : (zs.take 128).length = 128 := by rw [List.length_take]; omega
  have e2 : ((zs.drop 128).take 128).length = 128 := by rw [List.length_take, List.length_drop]; omega
  have e3 : zs.take 256 = zs.take 128 ++ (zs.drop 128).take 128 := by rw [← List.take_add]
  simp only [splice, Nat.mul_one, e1, e2]
  rw [show 128 * (1 + 1) = 256 by rfl, e3]
  generalize zs.take 128 = A at *
  generalize (zs.drop 128).take 128 = B at *
  simp only [List.take_zero, List.nil_append, Nat.zero_add, e1, List.length_append, e2]
  rw [List.take_append_of_le_length (by omega), List.take_of_length_le (by omega), List.drop_append, List.drop_eq_nil_of_le (by omega), List.nil_append, e1, List.drop_drop]
  simp

set_option maxHeartbeats 1000000 in
set_option maxRecDepth 20000 in
theorem two5 (v : Value) (zs : List Nat) (w : World) (h : Octs w v zs) : Calls Tryd.prog 27 #[v] w fun e w' => e = .returned (.agg (u8s (twoL zs)).toArray) ∧ Below w.heap.size w w' := by
  have HO : Hid (Octs w v zs) := h
  have hlen := h.len
  obtain ⟨a, cap, rfl⟩ := h.shape
  have hz50 := Tryd.zero50
  obtain ⟨Z, hZ⟩ : ∃ Z, Z = zl 256 := ⟨_, rfl⟩
  rw [← hZ] at hz50
  have HZ : Hid (Z = zl 256) := hZ
  have HZL : Hid (Z.length = 256) := by unfold Hid; rw [hZ, zl_length]
  clear hZ
  have W1 : Hid (Below w.heap.size w ((w.alloc (.cells (u8s Z).toArray 50)).alloc (.cells (u8s Z).toArray 50))) := ((Below.refl _ _).alloc (Nat.le_refl _) _).alloc (by simp) _
  have W2 : Hid (((w.alloc (.cells (u8s Z).toArray 50)).alloc (.cells (u8s Z).toArray 50)).heap[w.heap.size]? = some (.cells (u8s Z).toArray 50 (0, 0))) := row_same (B := w.heap.size + 1) (heap_alloc_new w _) ((Below.refl _ _).alloc (by simp) _) (by omega)
  have W3 : Hid (((w.alloc (.cells (u8s Z).toArray 50)).alloc (.cells (u8s Z).toArray 50)).heap[w.heap.size + 1]? = some (.cells (u8s Z).toArray 50 (0, 0))) := by
    have := heap_alloc_new (w.alloc (.cells (u8s Z).toArray 50)) (.cells (u8s Z).toArray 50)
    rwa [show (w.alloc (.cells (u8s Z).toArray 50)).heap.size = w.heap.size + 1 by simp] at this
  by_cases hn : zs.length = 256
  · have HT : Hid (twoL zs = zs) := if_pos hn
    have HN : Hid (zs.length = 256) := hn
    rw [hn] at HO h ⊢
    obtain ⟨b, off, rfl, hb, ha⟩ := h.addr (by decide)
    have HA : Hid (OctAt w b off zs) := ha
    have HBL : Hid (b < w.heap.size) := hb
    have hcap : 256 ≤ cap := by
      obtain ⟨_, _, a', c', e, h3, _⟩ := h
      simp only [Value.slice.injEq] at e
      omega
    have hcap2 : (256 : Int) ≤ cap := by omega
    clear h ha hb hn hlen
    go_enter Tryd.func27, Tryd.ntmps27
    go_wp2_with fail
    generalize (w.alloc (.cells (u8s Z).toArray 50)).alloc (.cells (u8s Z).toArray 50) = W at W1 W2 W3 ⊢
    go_loopw [9] (fun i wr => ∃ k : Nat, k ≤ 2 ∧ i = .int .i64 k ∧ Hid (∃ C, C = splice Z 0 (zs.take (128 * k)) ∧ wr.heap[w.heap.size + 1]? = some (.cells (u8s C).toArray 50 (0, 0))) ∧ Hid (wr.heap[w.heap.size]? = some (.cells (u8s Z).toArray 50 (0, 0))) ∧ Hid (Below w.heap.size w wr)) (fun i _ => 2 - (intOf i).toNat)
    case atStart => exact ⟨0, by omega, rfl, ⟨Z, by simp [splice], W3.out⟩, W2.out, W1.out⟩
    case round =>
      obtain ⟨k, hk, rfl, HC, HR, HB⟩ := hrel
      by_cases h2 : k < 2
      · have hk' : k = 0 ∨ k = 1 := by omega
        obtain ⟨C, hC, hg⟩ := HC.out
        have HG : Hid (wr.heap[w.heap.size + 1]? = some (.cells (u8s C).toArray 50 (0, 0))) := hg
        have HCE : Hid (C = splice Z 0 (zs.take (128 * k))) := hC
        have HCL : Hid (C.length = 256) := by unfold Hid; rw [hC, length_splice _ _ _ (by rw [HZL.out, List.length_take, HN.out]; omega), HZL.out]
        clear hC hg
        have HOw : Hid (Octs wr (.slice (some ⟨b, off, none⟩) 256 cap) zs) := HO.out.kept HB.out
        have HF : Hid (Octs wr (.slice (some ⟨b, off + k * 128, none⟩) (256 - k * 128) (cap - k * 128)) (zs.drop (k * 128))) := HOw.out.from (by have := HB.out.size; have := HBL.out; omega) (HA.out.kept HB.out HBL.out) (k * 128) (by omega)
        have n0 : ¬ cap = 0 := by omega
        have n1 : ¬ cap = 128 := by omega
        rcases hk' with rfl | rfl
        · have e0 : IntKind.i64.wrap 0 = 0 := by decide
          go_wp2_with fail
          go_region_law ((refine step_copy_octsN (by rfl) (.tmp 14) (.tmp 18) 26 26 (by rfl) 5 Tryd.underlying26 Tryd.sizeU85 (w.heap.size + 1) 0 128 128 ?hd _ zs ?hs HOw.out.drew C 50 HG.out (by rw [HN.out]; decide) (by decide) (by rw [HCL.out]; decide) w.heap.size w HB.out.drew (by omega) ?_; (case hd => simp [Act.eval, Act.put]); (case hs => simp [Act.eval, Act.put]); intro w3 HG3 HB3 HO3))
          all_goals
            rw [HCE.out, splice_one] at HG3
            have HR3 : Hid (w3.heap[w.heap.size]? = some (.cells (u8s Z).toArray 50 (0, 0))) := (HO3.out.undrew.heap (lt_of_heap HR.out) (by omega)).trans HR.out
            go_wp2
            go_roundw
            case rel => exact ⟨1, by omega, by go_num, ⟨_, rfl, HG3.out⟩, HR3.out, HB3.out⟩
            case measure => simp [intOf]
        · have e1 : IntKind.i64.wrap 128 = 128 := by decide
          have HF1 : Hid (Octs wr (.slice (some ⟨b, off + 128, none⟩) 128 (cap - 128)) (zs.drop 128)) := by
            have := HF.out
            rwa [Nat.one_mul, show 256 - 128 = 128 by rfl] at this
          go_wp2_with fail
          go_region_law ((refine step_copy_octsN (by rfl) (.tmp 14) (.tmp 18) 26 26 (by rfl) 5 Tryd.underlying26 Tryd.sizeU85 (w.heap.size + 1) 128 128 128 ?hd _ (zs.drop 128) ?hs HF1.out.drew C 50 HG.out (by rw [List.length_drop, HN.out]; decide) (by decide) (by rw [HCL.out]; decide) w.heap.size w HB.out.drew (by omega) ?_; (case hd => simp [Act.eval, Act.put]); (case hs => simp [Act.eval, Act.put]); intro w3 HG3 HB3 HO3))
          all_goals
            rw [HCE.out, splice_two _ _ HN.out HZL.out] at HG3
            have HR3 : Hid (w3.heap[w.heap.size]? = some (.cells (u8s Z).toArray 50 (0, 0))) := (HO3.out.undrew.heap (lt_of_heap HR.out) (by omega)).trans HR.out
            go_wp2
            go_roundw
            case rel => exact ⟨2, by omega, by go_num, ⟨_, rfl, HG3.out⟩, HR3.out, HB3.out⟩
            case measure => simp [intOf]
      · obtain rfl : k = 2 := by omega
        obtain ⟨C, hC, hg⟩ := HC.out
        have hCe : C = zs := by rw [hC, show 128 * 2 = 256 by rfl, List.take_of_length_le (by rw [HN.out]; decide), splice_full _ _ (by rw [HZL.out, HN.out])]
        subst hCe
        have HG : Hid (wr.heap[w.heap.size + 1]? = some (.cells (u8s C).toArray 50 (0, 0))) := hg
        clear hC hg HC
        go_wp2_with (first
            | ((with_reducible show wpList _ _ _ (Oper.mk _ (Op.load _ _) _ _ _ _ :: _) _ _); go_must (refine wpList_load_mid rfl 50 _ rfl _ _ rfl (u8s C) _ (range_row HG.out) Tryd.underlying50 rfl (by rw [u8s_length, HN.out]; exact Tryd.size50) ?_))
            | ((with_reducible show wpList _ _ _ (Oper.mk _ (Op.store _ _ _) _ _ _ _ :: _) _ _); go_must (refine wpList_store_mid rfl 50 _ _ rfl w.heap.size 0 (u8s C).toArray rfl rfl (there_row' HR.out (by rw [List.size_toArray, u8s_length, u8s_length, HN.out, HZL.out])) (by rw [List.size_toArray, u8s_length, HN.out]; exact Tryd.size50) (all_oneCell_toArray (u8s_one C)) ?_)))
        have hld := run_loadVar_mid (P := Tryd.prog) _ w.heap.size 0 50 (u8s C) _ (World.rangeAt_setCells_same wr w.heap.size 0 (u8s C) (there_row' HR.out (by rw [u8s_length, u8s_length, HN.out, HZL.out]))) Tryd.underlying50 rfl (by rw [u8s_length, HN.out]; exact Tryd.size50)
        exact bodyPost_ret (v := .agg (u8s C).toArray) (results_cell1 rfl rfl hld) rfl ⟨by rw [HT.out], below_setCells HB.out (by omega) _ _⟩
  · have HT : Hid (twoL zs = Z) := by unfold Hid; rw [HZ.out]; exact if_neg hn
    have hn' : ¬ (zs.length : Int) = 256 := by omega
    go_enter Tryd.func27, Tryd.ntmps27
    go_wp2_with (first
            | ((with_reducible show wpList _ _ _ (Oper.mk _ (Op.load _ _) _ _ _ _ :: _) _ _); go_must (refine wpList_load_mid rfl 50 _ rfl _ _ rfl (u8s Z) _ (range_row W3.out) Tryd.underlying50 rfl (by rw [u8s_length, HZL.out]; exact Tryd.size50) ?_))
            | ((with_reducible show wpList _ _ _ (Oper.mk _ (Op.store _ _ _) _ _ _ _ :: _) _ _); go_must (refine wpList_store_mid rfl 50 _ _ rfl w.heap.size 0 (u8s Z).toArray rfl rfl (there_row' W2.out (by rw [List.size_toArray])) (by rw [List.size_toArray, u8s_length, HZL.out]; exact Tryd.size50) (all_oneCell_toArray (u8s_one Z)) ?_)))
    have hld := run_loadVar_mid (P := Tryd.prog) _ w.heap.size 0 50 (u8s Z) _ (World.rangeAt_setCells_same _ w.heap.size 0 (u8s Z) (there_row' W2.out rfl)) Tryd.underlying50 rfl (by rw [u8s_length, HZL.out]; exact Tryd.size50)
    exact bodyPost_ret (v := .agg (u8s Z).toArray) (results_cell1 rfl rfl hld) rfl ⟨by rw [HT.out], below_setCells W1.out (by omega) _ _⟩
end Go.Proofs.YtgbibhbmcbbbhaaDoor
