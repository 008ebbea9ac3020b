/- Contract of 'Top'. -/
import Derived.Test.YtgbibhbmcbbbhaaDoorWalkNewest5
namespace Go.Proofs.YtgbibhbmcbbbhaaDoor
open Go.RowKit
set_option linter.unusedVariables false

def topJ (P : List Nat) (t : Int) : Nat → Int
  | 0 => t
  | j + 1 => topStep (topJ P t j) (genAt P (4 + 112 * j))
def topK (zs : List Nat) : Nat → Int
  | 0 => 0
  | k + 1 => topJ (partL zs k) (topK zs k) 2

set_option maxHeartbeats 1000000 in
set_option maxRecDepth 20000 in
theorem top5 (v : Value) (zs : List Nat) (w : World) (h : Octs w v zs) : Calls Tryd.prog 17 #[v] w fun e w' => e = .returned (.int .i64 (topK zs 2)) ∧ Below w.heap.size w w' := by
  have HO : Hid (Octs w v zs) := h
  obtain ⟨a, cap, rfl⟩ := h.shape
  clear h
  have HK0 : Hid (topK zs 0 = 0) := rfl
  have HKS : Hid (∀ k : Nat, topK zs (k + 1) = topJ (partL zs k) (topK zs k) 2) := fun _ => rfl
  have HPL : Hid (∀ k, k < 2 → (partL zs k).length = 128) := partL_length zs
  have HPS : Hid (∀ k, ∀ z ∈ partL zs k, z < 256) := partL_small HO.out.small
  have HID : Hid (∀ (k : Nat) (hk : k < 2) (w : World), (Instr.index 50 (.agg (u8s (twoL zs)).toArray) (.int .i64 (k : Nat))).run Tryd.prog w = .ok (.agg (u8s (partL zs k)).toArray) w) := idx_two zs
  have hz43 := Tryd.zero43
  obtain ⟨Z1, hZ1⟩ : ∃ Z, Z = zl 128 := ⟨_, rfl⟩
  rw [← hZ1] at hz43
  have HZL : Hid (Z1.length = 128) := by unfold Hid; rw [hZ1, zl_length]
  clear hZ1
  generalize topK zs = T at *
  go_enter Tryd.func17, Tryd.ntmps17
  go_wp2_with fail
  refine (two5 _ zs _ HO.out).mono ?_
  rintro e w1 ⟨rfl, hb1⟩
  have HB1 : Hid (Below w.heap.size w w1) := hb1
  clear hb1
  go_wp2_with fail
  go_loopw [11, 3] (fun i t wr => ∃ k : Nat, k ≤ 2 ∧ i = .int .i64 k ∧ t = .int .i64 (T k) ∧ Hid (Below w.heap.size w wr)) (fun i _ _ => 2 - (intOf i).toNat)
  case atStart => exact ⟨0, by omega, rfl, by rw [HK0.out], HB1.out⟩
  case round =>
    obtain ⟨k, hk, rfl, rfl, GB⟩ := hrel
    by_cases h2 : k < 2
    · have hidx := HID.out k h2 wr
      have HP : Hid ((partL zs k).length = 128) := HPL.out k h2
      have HS : Hid (∀ z ∈ partL zs k, z < 256) := HPS.out k
      have HTk : Hid (T (k + 1) = topJ (partL zs k) (T k) 2) := HKS.out k
      generalize partL zs k = P at *
      go_wp2_with ((with_reducible show wpList _ _ _ (Oper.mk _ (Op.store _ _ _) _ _ _ _ :: _) _ _); go_must (refine wpList_store_last5 rfl 43 _ _ rfl wr _ rfl (u8s P).toArray rfl rfl (by rw [List.size_toArray, u8s_length, HP.out]; exact Tryd.size43) (by rw [List.size_toArray, List.size_toArray, u8s_length, u8s_length, HP.out, HZL.out]) (all_oneCell_toArray (u8s_one P)) ?_))
      go_wp2_with fail
      have V1 : Hid ((wr.alloc (.cells (u8s P).toArray 43)).heap[wr.heap.size]? = some (.cells (u8s P).toArray 43 (0, 0))) := heap_alloc_new _ _
      have V2 : Hid (Below w.heap.size w (wr.alloc (.cells (u8s P).toArray 43))) := GB.out.alloc GB.out.size _
      generalize wr.alloc (.cells (u8s P).toArray 43) = V at V1 V2 ⊢
      clear GB
      generalize wr.heap.size = B at V1 ⊢
      have HJ0 : Hid (topJ P (T k) 0 = T k) := rfl
      have HJS : Hid (∀ j, topJ P (T k) (j + 1) = topStep (topJ P (T k) j) (genAt P (4 + 112 * j))) := fun _ => rfl
      generalize topJ P (T k) = J at *
      clear hidx
      go_loopw [15, 3] (fun i t w' => ∃ j : Nat, j ≤ 2 ∧ i = .int .i64 j ∧ t = .int .i64 (J j) ∧ Hid (w'.heap[B]? = some (.cells (u8s P).toArray 43 (0, 0))) ∧ Hid (Below w.heap.size w w')) (fun i _ _ => 2 - (intOf i).toNat)
      case atStart => exact ⟨0, by omega, rfl, by rw [HJ0.out], V1.out, V2.out⟩
      case round =>
        obtain ⟨j, hj, rfl, rfl, X1, X2⟩ := hrel
        have hj' : j = 0 ∨ j = 1 ∨ j = 2 := by omega
        rcases hj' with rfl | rfl | rfl
        · have hidx : (Instr.index 52 (.agg #[.int .i64 4, .int .i64 116]) (.int .i64 0)).run Tryd.prog wr = .ok (.int .i64 4) wr := run_index_one (P := Tryd.prog) wr (t := 52) #[.int .i64 4, .int .i64 116] 0 (.int .i64 4) Tryd.underlying52 Tryd.underlying3 Tryd.sizeInt5 (by decide) rfl
          have HOc : Hid (Octs wr (.slice (some ⟨B, 4, none⟩) 124 124) (P.drop 4)) := by
            have := octs_row X1.out HS.out 4 (by rw [HP.out]; decide) 124 (by rw [HP.out]; decide) (by rw [HP.out]; decide) (by decide)
            rwa [show P.length - 4 = 124 by rw [HP.out]] at this
          have HJn : Hid (J 1 = topStep (J 0) (genAt P 4)) := HJS.out 0
          have hgr := genAt_range P 4
          have HSG : Hid (sgnI (getO ((⟨P.drop 4, false⟩ : RS).oct (cl 8 8))) (8 * cl 8 8) = genAt P 4) := by
            unfold Hid
            rw [show cl 8 8 = 8 by decide, (rs_at P 4 8 (by rw [HP.out]; decide)).1]
            exact sgn_full _ (getO_range _).1 (getO_range _).2
          go_wp2_with fail
          refine (read_octs _ (P.drop 4) _ HOc.out (by rw [List.length_drop, HP.out]; decide)).mono ?_
          rintro e w2 ⟨p, rfl, hR, hb, hp⟩
          have HR : Hid (IsR w2 p ⟨P.drop 4, false⟩) := hR
          have hlt : B < wr.heap.size := lt_of_heap X1.out
          have X12 : Hid (w2.heap[B]? = some (.cells (u8s P).toArray 43 (0, 0))) := row_same X1.out hb hlt
          have HB2 : Hid (Below w.heap.size w w2) := X2.out.trans (hb.mono X2.out.size)
          have HPn : Hid (B ≠ p) := by unfold Hid; omega
          have HPw : Hid (w.heap.size ≤ p) := by have := X2.out.size; unfold Hid; omega
          clear hR hb hp hidx
          go_wp2_with fail
          refine (rsigned_any HR.out 8).mono ?_
          rintro e w3 ⟨rfl, hR3, hk3⟩
          rw [HSG.out]
          have X13 : Hid (w3.heap[B]? = some (.cells (u8s P).toArray 43 (0, 0))) := row_only X12.out hk3 HPn.out
          have HB3 : Hid (Below w.heap.size w w3) := HB2.out.trans (hk3.below HPw.out HB2.out.size)
          clear hR3 hk3 HSG
          generalize genAt P 4 = n at *
          by_cases h48 : n ≤ 281474976710656
          · by_cases hmax : J 0 < n
            · have HJe : Hid (J 1 = n) := by unfold Hid; rw [HJn.out, topStep, if_pos h48, if_pos hmax]
              go_wp2
              go_roundw
              case rel => exact ⟨1, by omega, by go_num, by rw [HJe.out], X13.out, HB3.out⟩
              case measure => simp [intOf]
            · have HJe : Hid (J 1 = J 0) := by unfold Hid; rw [HJn.out, topStep, if_pos h48, if_neg hmax]
              go_wp2
              go_roundw
              case rel => exact ⟨1, by omega, by go_num, by rw [HJe.out], X13.out, HB3.out⟩
              case measure => simp [intOf]
          · have HJe : Hid (J 1 = J 0) := by unfold Hid; rw [HJn.out, topStep, if_neg h48]
            go_wp2
            go_roundw
            case rel => exact ⟨1, by omega, by go_num, by rw [HJe.out], X13.out, HB3.out⟩
            case measure => simp [intOf]
        · have hidx : (Instr.index 52 (.agg #[.int .i64 4, .int .i64 116]) (.int .i64 1)).run Tryd.prog wr = .ok (.int .i64 116) wr := run_index_one (P := Tryd.prog) wr (t := 52) #[.int .i64 4, .int .i64 116] 1 (.int .i64 116) Tryd.underlying52 Tryd.underlying3 Tryd.sizeInt5 (by decide) rfl
          have HOc : Hid (Octs wr (.slice (some ⟨B, 116, none⟩) 12 12) (P.drop 116)) := by
            have := octs_row X1.out HS.out 116 (by rw [HP.out]; decide) 12 (by rw [HP.out]; decide) (by rw [HP.out]; decide) (by decide)
            rwa [show P.length - 116 = 12 by rw [HP.out]] at this
          have HJn : Hid (J 2 = topStep (J 1) (genAt P 116)) := HJS.out 1
          have hgr := genAt_range P 116
          have HSG : Hid (sgnI (getO ((⟨P.drop 116, false⟩ : RS).oct (cl 8 8))) (8 * cl 8 8) = genAt P 116) := by
            unfold Hid
            rw [show cl 8 8 = 8 by decide, (rs_at P 116 8 (by rw [HP.out]; decide)).1]
            exact sgn_full _ (getO_range _).1 (getO_range _).2
          go_wp2_with fail
          refine (read_octs _ (P.drop 116) _ HOc.out (by rw [List.length_drop, HP.out]; decide)).mono ?_
          rintro e w2 ⟨p, rfl, hR, hb, hp⟩
          have HR : Hid (IsR w2 p ⟨P.drop 116, false⟩) := hR
          have hlt : B < wr.heap.size := lt_of_heap X1.out
          have X12 : Hid (w2.heap[B]? = some (.cells (u8s P).toArray 43 (0, 0))) := row_same X1.out hb hlt
          have HB2 : Hid (Below w.heap.size w w2) := X2.out.trans (hb.mono X2.out.size)
          have HPn : Hid (B ≠ p) := by unfold Hid; omega
          have HPw : Hid (w.heap.size ≤ p) := by have := X2.out.size; unfold Hid; omega
          clear hR hb hp hidx
          go_wp2_with fail
          refine (rsigned_any HR.out 8).mono ?_
          rintro e w3 ⟨rfl, hR3, hk3⟩
          rw [HSG.out]
          have X13 : Hid (w3.heap[B]? = some (.cells (u8s P).toArray 43 (0, 0))) := row_only X12.out hk3 HPn.out
          have HB3 : Hid (Below w.heap.size w w3) := HB2.out.trans (hk3.below HPw.out HB2.out.size)
          clear hR3 hk3 HSG
          generalize genAt P 116 = n at *
          by_cases h48 : n ≤ 281474976710656
          · by_cases hmax : J 1 < n
            · have HJe : Hid (J 2 = n) := by unfold Hid; rw [HJn.out, topStep, if_pos h48, if_pos hmax]
              go_wp2
              go_roundw
              case rel => exact ⟨2, by omega, by go_num, by rw [HJe.out], X13.out, HB3.out⟩
              case measure => simp [intOf]
            · have HJe : Hid (J 2 = J 1) := by unfold Hid; rw [HJn.out, topStep, if_pos h48, if_neg hmax]
              go_wp2
              go_roundw
              case rel => exact ⟨2, by omega, by go_num, by rw [HJe.out], X13.out, HB3.out⟩
              case measure => simp [intOf]
          · have HJe : Hid (J 2 = J 1) := by unfold Hid; rw [HJn.out, topStep, if_neg h48]
            go_wp2
            go_roundw
            case rel => exact ⟨2, by omega, by go_num, by rw [HJe.out], X13.out, HB3.out⟩
            case measure => simp [intOf]
        · go_wp2
          go_roundw
          case rel => exact ⟨k + 1, by omega, by go_num, by rw [HTk.out], X2.out⟩
          case measure => simp [intOf]; omega
    · obtain rfl : k = 2 := by omega
      go_wp2
      go_ret
      exact ⟨rfl, GB.out⟩

theorem top_eq (zs : List Nat) : topK zs 2 = topS zs := by
  have e : topK zs 2 = topStep (topStep (topStep (topStep 0 (genAt (partL zs 0) 4)) (genAt (partL zs 0) 116)) (genAt (partL zs 1) 4)) (genAt (partL zs 1) 116) := rfl
  rw [e]
  unfold topS
  by_cases h : zs.length = 256
  · have et : twoL zs = zs := if_pos h
    rw [if_pos h]
    unfold partL genAt
    rw [et]
    simp only [Nat.zero_mul, List.drop_zero, Nat.one_mul, List.drop_take, List.take_take, List.drop_drop]
    rfl
  · rw [if_neg h, part_bad zs h 0 (by decide), part_bad zs h 1 (by decide)]
    have h1 : genAt (zl 128) 4 = 0 := by decide +kernel
    have h2 : genAt (zl 128) 116 = 0 := by decide +kernel
    rw [h1, h2]; decide
theorem top_v (v : Value) (zs : List Nat) (w : World) (h : Octs w v zs) : Calls Tryd.prog 17 #[v] w fun e w' => e = .returned (.int .i64 (topS zs)) ∧ Below w.heap.size w w' := by
  rw [← top_eq]; exact top5 v zs w h
end Go.Proofs.YtgbibhbmcbbbhaaDoor
