/- Contract of 'told'. -/
import Derived.Test.YtgbibhbmcbbbhaaDoorWalkPut5
namespace Go.Proofs.YtgbibhbmcbbbhaaDoor
open Go.RowKit
set_option linter.unusedVariables false

theorem Tryd.cellsU85 : Tryd.prog.cellsOf 5 = 1 := by kernel_rfl
def toldV (o : Option Sup) : Value := .tuple #[sval (o.getD Sup.zero), .bool o.isSome]
/-- The numbers that are read so far. -/
def nArr (zs : List Nat) (k : Nat) : Array Value := ((List.range 7).map fun i => Value.int .i64 (if i < k then numAt zs (12 + 4 * i) else 0)).toArray
theorem nArr_zero (zs : List Nat) : nArr zs 0 = #[.int .i64 0, .int .i64 0, .int .i64 0, .int .i64 0, .int .i64 0, .int .i64 0, .int .i64 0] := by simp [nArr, List.range_succ]
theorem nArr_set (zs : List Nat) (k : Nat) (hk : k < 7) : (nArr zs k).setIfInBounds k (.int .i64 (numAt zs (12 + 4 * k))) = nArr zs (k + 1) := by
  have : k = 0 ∨ k = 1 ∨ k = 2 ∨ k = 3 ∨ k = 4 ∨ k = 5 ∨ k = 6 := by omega
  rcases this with rfl | rfl | rfl | rfl | rfl | rfl | rfl <;> simp [nArr, List.range_succ]
theorem nArr_at (zs : List Nat) (k : Nat) (hk : k < 7) : ∃ u, (nArr zs k)[k]? = some u := by
  refine ⟨.int .i64 0, ?_⟩
  simp [nArr, hk]
theorem nArr_cells {w : World} {b : Nat} {zs : List Nat} (h : w.heap[b]? = some (.cells (nArr zs 7) 59 (0, 0))) : w.cell? ⟨b, 0, none⟩ = some (.int .i64 (numAt zs 12)) ∧ w.cell? ⟨b, 1, none⟩ = some (.int .i64 (numAt zs 16)) ∧ w.cell? ⟨b, 2, none⟩ = some (.int .i64 (numAt zs 20)) ∧ w.cell? ⟨b, 3, none⟩ = some (.int .i64 (numAt zs 24)) ∧
    w.cell? ⟨b, 4, none⟩ = some (.int .i64 (numAt zs 28)) ∧ w.cell? ⟨b, 5, none⟩ = some (.int .i64 (numAt zs 32)) ∧ w.cell? ⟨b, 6, none⟩ = some (.int .i64 (numAt zs 36)) := by
  refine ⟨?_, ?_, ?_, ?_, ?_, ?_, ?_⟩ <;> rw [cell_of_row _ _ _ _ _ _ h] <;> simp [nArr, List.range_succ]

theorem nArr_noOct {w : World} {b k : Nat} {zs : List Nat} (h : w.heap[b]? = some (.cells (nArr zs k) 59 (0, 0))) : NoOct w b := by
  intro i z e
  rw [cell_of_row _ _ _ _ _ _ h] at e
  simp [nArr] at e
theorem rs_at (zs : List Nat) (m n : Nat) (h : m + n ≤ zs.length) : (⟨zs.drop m, false⟩ : RS).oct n = (zs.drop m).take n ∧ (⟨zs.drop m, false⟩ : RS).off n = ⟨zs.drop (m + n), false⟩ := by
  have hc : (⟨zs.drop m, false⟩ : RS).can n = true := RS.can_iff.2 ⟨rfl, by rw [List.length_drop]; omega⟩
  refine ⟨if_pos hc, ?_⟩
  unfold RS.off
  rw [if_pos hc, List.drop_drop]
theorem IsR.undrew {w : World} {p : Nat} {s : RS} (h : IsR w.drew p s) : IsR w p s := h
theorem row_only {w w' : World} {b p : Nat} {o : Obj} (h : w.heap[b]? = some o) (hb : Only p w w') (hn : b ≠ p) : w'.heap[b]? = some o := (hb.heap (lt_of_heap h) hn).trans h

set_option maxHeartbeats 1000000 in
set_option maxRecDepth 20000 in
theorem told5 (zs : List Nat) (hl : zs.length = 128) (hz : ∀ z ∈ zs, z < 256) (w : World) (ht : Steps w) : Calls Tryd.prog 23 #[.agg (u8s zs).toArray] w fun e w' => e = .returned (toldV (toldS zs)) ∧ Below w.heap.size w w' := by
  have HT : Hid (Steps w) := ht
  have HL : Hid (zs.length = 128) := hl
  have HZ : Hid (∀ z ∈ zs, z < 256) := hz
  clear ht hl hz
  go_enter Tryd.func23, Tryd.ntmps23
  go_wp2_with fail
  obtain ⟨W, hW⟩ : ∃ W, W = (w.alloc (.cells (u8s zs).toArray 43)).alloc (.cells #[.int .i64 0, .int .i64 0, .int .i64 0, .int .i64 0, .int .i64 0, .int .u32 0, .int .i64 0, .int .i64 0] 24) := ⟨_, rfl⟩
  rw [← hW]
  have FX : Hid (W.heap[w.heap.size]? = some (.cells (u8s zs).toArray 43 (0, 0))) := by
    subst hW
    exact row_same (B := w.heap.size + 1) (heap_alloc_new w _) ((Below.refl _ _).alloc (by simp) _) (by omega)
  have F0 : Hid (SupAt W (w.heap.size + 1) Sup.zero) := by
    subst hW
    have := heap_alloc_new (w.alloc (.cells (u8s zs).toArray 43)) (.cells #[.int .i64 0, .int .i64 0, .int .i64 0, .int .i64 0, .int .i64 0, .int .u32 0, .int .i64 0, .int .i64 0] 24)
    rwa [show (w.alloc (.cells (u8s zs).toArray 43)).heap.size = w.heap.size + 1 by simp] at this
  have FB : Hid (Below w.heap.size w W) := by
    subst hW
    exact ((Below.refl _ _).alloc (Nat.le_refl _) _).alloc (by simp) _
  have FSZ : Hid (W.heap.size = w.heap.size + 2) := by unfold Hid; subst hW; simp
  clear hW
  have HO : Hid (Octs W (.slice (some ⟨w.heap.size, 4, none⟩) 124 124) (zs.drop 4)) := by
    have := octs_row FX.out HZ.out 4 (by rw [HL.out]; decide) 124 (by rw [HL.out]; decide) (by rw [HL.out]; decide) (by decide)
    rwa [show zs.length - 4 = 124 by rw [HL.out]] at this
  refine (read_octs _ (zs.drop 4) W HO.out (by rw [List.length_drop, HL.out]; decide)).mono ?_
  rintro e w1 ⟨p, rfl, hR1, hb1, hp⟩
  have HR1 : Hid (IsR w1 p ⟨zs.drop 4, false⟩) := hR1
  have HB1 : Hid (Below W.heap.size W w1) := hb1
  have HP : Hid (W.heap.size ≤ p) := hp
  have HPl : Hid (p < w1.heap.size) := hR1.lt
  clear hR1 hb1 hp HO
  go_wp2_with fail
  refine (rsigned_any HR1.out 8).mono ?_
  rintro e w2 ⟨rfl, hR2, hk2⟩
  have e8 : cl 8 8 = 8 := by decide
  rw [e8, (rs_at zs 4 8 (by rw [HL.out]; decide)).2] at hR2
  rw [e8, (rs_at zs 4 8 (by rw [HL.out]; decide)).1]
  have eg : sgnI (getO ((zs.drop 4).take 8)) (8 * 8) = genAt zs 4 := sgn_full _ (getO_range _).1 (getO_range _).2
  rw [eg]
  clear e8 eg
  have HR2 : Hid (IsR w2 p ⟨zs.drop (4 + 8), false⟩) := hR2
  have HB2 : Hid (Below W.heap.size W w2) := HB1.out.trans (hk2.below HP.out HB1.out.size)
  have HPl2 : Hid (p < w2.heap.size) := hR2.lt
  clear hR2 hk2
  go_wp2_with fail
  go_loopw [13] (fun i wr => ∃ k : Nat, k ≤ 7 ∧ i = .int .i64 k ∧ Hid (IsR wr p ⟨zs.drop (12 + 4 * k), false⟩) ∧ Hid (wr.heap[w2.heap.size]? = some (.cells (nArr zs k) 59 (0, 0))) ∧ Hid (Below W.heap.size W wr)) (fun i _ => 7 - (intOf i).toNat)
  case atStart => exact ⟨0, by omega, rfl, HR2.out.alloc _, by rw [nArr_zero]; exact heap_alloc_new _ _, HB2.out.alloc HB2.out.size _⟩
  case round =>
    obtain ⟨k, hk, rfl, HR3, HN3, HB3⟩ := hrel
    by_cases h7 : k < 7
    · go_wp2_with fail
      refine (rnum_any HR3.out 4).mono ?_
      rintro e w4 ⟨rfl, hR4, hk4⟩
      have e4 : cl 4 8 = 4 := by decide
      rw [e4, (rs_at zs (12 + 4 * k) 4 (by rw [HL.out]; omega)).2] at hR4
      rw [e4, (rs_at zs (12 + 4 * k) 4 (by rw [HL.out]; omega)).1]
      have hN4 := row_only HN3.out hk4 (by have := HPl2.out; omega)
      have HR4 : Hid (IsR w4 p ⟨zs.drop (12 + 4 * k + 4), false⟩) := hR4
      have HB4 : Hid (Below W.heap.size W w4) := HB3.out.trans (hk4.below HP.out HB3.out.size)
      have HN4 : Hid (w4.heap[w2.heap.size]? = some (.cells (nArr zs k) 59 (0, 0))) := hN4
      obtain ⟨u, hu⟩ := nArr_at zs k h7
      have c4 : w4.cell? ⟨w2.heap.size, k, none⟩ = some u := (cell_of_row _ _ _ _ _ _ hN4).trans hu
      have f4 : w4.frozen? ⟨w2.heap.size, k, none⟩ = false := by simp [World.frozen?, hN4]
      have hl4 : getO ((zs.drop (12 + 4 * k)).take 4) = numAt zs (12 + 4 * k) := rfl
      rw [hl4]
      clear hR4 hk4 hN4 hu e4 hl4
      go_wp2
      go_roundw
      case rel =>
        refine ⟨k + 1, by omega, by go_num, ?_, ?_, ?_⟩
        · rw [show 12 + 4 * (k + 1) = 12 + 4 * k + 4 by omega]
          exact HR4.out.only (nArr_noOct HN4.out) (by have := HPl2.out; omega) ((Only.refl _ _).setCell k _)
        · rw [← nArr_set zs k h7]
          exact heap_set_row HN4.out k _
        · exact HB4.out.setCell (p := ⟨w2.heap.size, k, none⟩) (by have := HB2.out.size; show W.heap.size ≤ w2.heap.size; omega) _
      case measure => simp [intOf]; omega
    · obtain rfl : k = 7 := by omega
      obtain ⟨k0, k1, k2, k3, k4, k5, k6⟩ := nArr_cells HN3.out
      have eu : IntKind.u32.wrap (numAt zs 28) = numAt zs 28 := by
        have := numAt_range HZ.out 28
        rw [IntKind.wrap_u32]; omega
      go_wp2_with fail
      clear k0 k1 k2 k3 k4 k5 k6 eu
      have SV : Hid (SupAt (wr.alloc (.cells #[.int .i64 (genAt zs 4), .int .i64 (numAt zs 12), .int .i64 (numAt zs 16), .int .i64 (numAt zs 20), .int .i64 (numAt zs 24), .int .u32 (numAt zs 28), .int .i64 (numAt zs 32), .int .i64 (numAt zs 36)] 24)) wr.heap.size (readS zs)) := heap_alloc_new _ _
      have VB : Hid (Below W.heap.size W (wr.alloc (.cells #[.int .i64 (genAt zs 4), .int .i64 (numAt zs 12), .int .i64 (numAt zs 16), .int .i64 (numAt zs 20), .int .i64 (numAt zs 24), .int .u32 (numAt zs 28), .int .i64 (numAt zs 32), .int .i64 (numAt zs 36)] 24))) := HB3.out.alloc HB3.out.size _
      generalize (wr.alloc (.cells #[.int .i64 (genAt zs 4), .int .i64 (numAt zs 12), .int .i64 (numAt zs 16), .int .i64 (numAt zs 20), .int .i64 (numAt zs 24), .int .u32 (numAt zs 28), .int .i64 (numAt zs 32), .int .i64 (numAt zs 36)] 24)) = V at SV VB ⊢
      have hbx : w.heap.size < W.heap.size := lt_of_heap FX.out
      have VX : Hid (V.heap[w.heap.size]? = some (.cells (u8s zs).toArray 43 (0, 0))) := row_same FX.out VB.out hbx
      have V0 : Hid (SupAt V (w.heap.size + 1) Sup.zero) := F0.out.same VB.out F0.out.lt
      have VBB : Hid (Below w.heap.size w V) := FB.out.trans (VB.out.mono (by omega))
      have HTV : Hid (Steps V) := HT.out.below VBB.out
      have HFit : Hid (readS zs).Fits := readS_fits HZ.out
      have HS : Hid (∀ w', Below V.heap.size V w' → w'.cell? ⟨wr.heap.size, 0, none⟩ = some (.int .i64 (readS zs).gen) ∧ w'.cell? ⟨wr.heap.size, 1, none⟩ = some (.int .i64 (readS zs).journal) ∧ w'.cell? ⟨wr.heap.size, 2, none⟩ = some (.int .i64 (readS zs).area) ∧ w'.cell? ⟨wr.heap.size, 3, none⟩ = some (.int .i64 (readS zs).which) ∧ w'.cell? ⟨wr.heap.size, 4, none⟩ = some (.int .i64 (readS zs).len) ∧ w'.cell? ⟨wr.heap.size, 5, none⟩ = some (.int .u32 (readS zs).sum) ∧ w'.cell? ⟨wr.heap.size, 6, none⟩ = some (.int .i64 (readS zs).epoch) ∧ w'.cell? ⟨wr.heap.size, 7, none⟩ = some (.int .i64 (readS zs).start) ∧ w'.rangeAt w.heap.size 0 (u8s zs)) := fun w' h => by
        obtain ⟨a, b, c, d, e, f, g, i⟩ := (SV.out.same h SV.out.lt).cells
        exact ⟨a, b, c, d, e, f, g, i, range_row (row_same VX.out h (lt_of_heap VX.out))⟩
      have HTB : Hid (toldB zs = (okS (readS zs) && decide (sect (readS zs) = zs))) := rfl
      have HTO : Hid (toldS zs = if toldB zs = true then some (readS zs) else none) := rfl
      have heq : ∀ w', (Op.equalIn 10000 43 (.agg (u8s (sect (readS zs))).toArray) (.agg (u8s zs).toArray)).run Tryd.prog w' = .ok (decide (sect (readS zs) = zs)) w' := fun w' => by
        obtain ⟨i0, hi, _⟩ := info_parts Tryd.infoU8'
        exact eq_arr w' 43 5 128 .u8 Tryd.underlying43 hi Tryd.cellsU85 Tryd.underlying5 _ _ (sect_length _) HL.out
      have hu43 := Tryd.underlying43
      have hi43 : (Tryd.prog.info? 43).map (·.size) = some (u8s zs).length := by rw [u8s_length, HL.out]; exact Tryd.size43
      generalize hr : readS zs = r at *
      by_cases hok : okS r = true
      · go_region_held3 (fun w' => w'.cell? ⟨wr.heap.size, 0, none⟩ = some (.int .i64 r.gen) ∧ w'.cell? ⟨wr.heap.size, 1, none⟩ = some (.int .i64 r.journal) ∧ w'.cell? ⟨wr.heap.size, 2, none⟩ = some (.int .i64 r.area) ∧ w'.cell? ⟨wr.heap.size, 3, none⟩ = some (.int .i64 r.which) ∧ w'.cell? ⟨wr.heap.size, 4, none⟩ = some (.int .i64 r.len) ∧ w'.cell? ⟨wr.heap.size, 5, none⟩ = some (.int .u32 r.sum) ∧ w'.cell? ⟨wr.heap.size, 6, none⟩ = some (.int .i64 r.epoch) ∧ w'.cell? ⟨wr.heap.size, 7, none⟩ = some (.int .i64 r.start) ∧ w'.rangeAt w.heap.size 0 (u8s zs)) (first | exact HS.out _ (Below.refl _ _).drew | exact HS.out _ HBa.out | exact HS.out _ HBb.out) (first
          | (go_at_call 10; refine (right5 r HFit.out _).mono ?_; rintro e wa ⟨rfl, hba⟩; rw [hok]
             have HBa : Hid (Below V.heap.size V wa) := below_undrew hba
             clear hba)
          | (go_at_call 20; refine (laid5 r HFit.out _ (HTV.out.below HBa.out)).mono ?_; rintro e wb ⟨rfl, hbb⟩
             have HBb : Hid (Below V.heap.size V wb) := HBa.out.trans (hbb.mono HBa.out.size)
             clear hbb))
        all_goals
          have F0b : Hid (SupAt wb (w.heap.size + 1) Sup.zero) := V0.out.same HBb.out V0.out.lt
          have Fsb : Hid (SupAt wb wr.heap.size r) := SV.out.same HBb.out SV.out.lt
          have FBb : Hid (Below w.heap.size w wb) := VBB.out.trans (HBb.out.mono VBB.out.size)
          by_cases hs : sect r = zs
          · have hd : decide (sect r = zs) = true := decide_eq_true hs
            have HV : Hid (toldS zs = some r) := by unfold Hid; rw [HTO.out, HTB.out, hok, hd]; rfl
            simp only [hd, Bool.not_true]
            obtain ⟨k0, k1, k2, k3, k4, k5, k6, k7⟩ := Fsb.out.cells
            go_wp2_with ((with_reducible show wpList _ _ _ (Oper.mk _ (Op.store _ _ _) _ _ _ _ :: _) _ _); go_must (refine wpList_store_mid rfl 24 _ _ rfl (w.heap.size + 1) 0 r.cl.toArray rfl rfl F0b.out.there Tryd.sizeS5 r.cl_one ?_))
            go_wp2
            refine bodyPost_ret (v := toldV (some r)) (results_cell2 rfl rfl rfl (sup_loadSet F0b.out r)) rfl ⟨by rw [HV.out], below_setCells FBb.out (by omega) _ _⟩
          · have hd : decide (sect r = zs) = false := decide_eq_false hs
            have HV : Hid (toldS zs = none) := by unfold Hid; rw [HTO.out, HTB.out, hok, hd]; rfl
            simp only [hd, Bool.not_false]
            go_wp2_with ((with_reducible show wpList _ _ _ (Oper.mk _ (Op.store _ _ _) _ _ _ _ :: _) _ _); go_must (refine wpList_store_mid rfl 24 _ _ rfl (w.heap.size + 1) 0 Sup.zero.cl.toArray rfl rfl F0b.out.there Tryd.sizeS5 Sup.zero.cl_one ?_))
            go_wp2
            refine bodyPost_ret (v := toldV none) (results_cell2 rfl rfl rfl (sup_loadSet F0b.out Sup.zero)) rfl ⟨by rw [HV.out], below_setCells FBb.out (by omega) _ _⟩
      · have hok' : okS r = false := by simpa using hok
        have HV : Hid (toldS zs = none) := by unfold Hid; rw [HTO.out, HTB.out, hok']; rfl
        obtain ⟨k0, k1, k2, k3, k4, k5, k6, k7⟩ := SV.out.cells
        go_region_law (first
          | (go_simp; go_at_call 10; refine (right5 r HFit.out _).mono ?_; rintro e wa ⟨rfl, hba⟩; rw [hok']
             have HBa : Hid (Below V.heap.size V wa) := below_undrew hba
             clear hba))
        all_goals
          have F0b : Hid (SupAt wa (w.heap.size + 1) Sup.zero) := V0.out.same HBa.out V0.out.lt
          have FBb : Hid (Below w.heap.size w wa) := VBB.out.trans (HBa.out.mono VBB.out.size)
          go_wp2_with ((with_reducible show wpList _ _ _ (Oper.mk _ (Op.store _ _ _) _ _ _ _ :: _) _ _); go_must (refine wpList_store_mid rfl 24 _ _ rfl (w.heap.size + 1) 0 Sup.zero.cl.toArray rfl rfl F0b.out.there Tryd.sizeS5 Sup.zero.cl_one ?_))
          go_wp2
          refine bodyPost_ret (v := toldV none) (results_cell2 rfl rfl rfl (sup_loadSet F0b.out Sup.zero)) rfl ⟨by rw [HV.out], below_setCells FBb.out (by omega) _ _⟩
end Go.Proofs.YtgbibhbmcbbbhaaDoor
