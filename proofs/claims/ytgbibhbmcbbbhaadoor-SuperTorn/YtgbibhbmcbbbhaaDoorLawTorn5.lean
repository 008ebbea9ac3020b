/- The law SuperTorn where both are right, walked. (Written by wip/mk_laws5.py.) -/
import Derived.Test.YtgbibhbmcbbbhaaDoorLawTornNo5
namespace Go.Proofs.YtgbibhbmcbbbhaaDoor
open Go.RowKit
set_option linter.unusedVariables false


theorem octs_first {w : World} {g : Nat} {zs : List Nat} {t : TypeId} (hg : w.heap[g]? = some (.cells (u8s zs).toArray t (0, 0))) (hz : ∀ z ∈ zs, z < 256) (hn : zs.length = 128) (K : Nat) (hK : K ≤ 128) : Octs w (.slice (some ⟨g, 0, none⟩) K 128) (zs.take K) := by
  have hl : (zs.take K).length = K := by rw [List.length_take]; omega
  refine ⟨fun z h => hz z (List.mem_of_mem_take h), by rw [hl]; unfold maxLen; omega, _, 128, by rw [hl], by rw [hl]; exact hK, by decide, .inr ⟨_, rfl, .inr ⟨g, 0, rfl, lt_of_heap hg, ?_⟩⟩⟩
  intro j hj
  rw [hl] at hj
  rw [cell_of_row _ _ _ _ _ _ hg, u8s_at, Nat.zero_add, List.getElem?_take_of_lt hj]
  simp [List.getElem?_eq_getElem (show j < zs.length by omega)]
theorem octs_last {w : World} {g : Nat} {zs : List Nat} {t : TypeId} (hg : w.heap[g]? = some (.cells (u8s zs).toArray t (0, 0))) (hz : ∀ z ∈ zs, z < 256) (hn : zs.length = 128) (K : Nat) (hK : K ≤ 128) (pa : Addr) (hp : K < 128 → pa = ⟨g, K, none⟩) : Octs w (.slice (some pa) (128 - K) (128 - K)) (zs.drop K) := by
  by_cases h : K < 128
  · obtain rfl := hp h
    have := octs_row hg hz K (by omega) (128 - K) (by rw [hn]; decide) (by omega) (by unfold maxLen; omega)
    rwa [hn] at this
  · have e : zs.drop K = [] := List.drop_eq_nil_of_le (by omega)
    rw [e, show 128 - K = 0 by omega]
    exact ⟨fun z h => (by cases h), (by simp), _, 0, rfl, Nat.le_refl _, (by simp), .inr ⟨_, rfl, .inl rfl⟩⟩

set_option maxHeartbeats 2000000 in
set_option maxRecDepth 20000 in
theorem torn_main (s t : Sup) (cut : Int) (w : World) (ht : Steps w) (hs : s.Fits) (hg : t.Fits) (hok : okS s = true) (hokt : okS t = true) (hlt : s.gen < t.gen) (h255 : t.gen ≤ 255) : Calls Tryd.prog 7 #[sval s, sval t, .int .i64 cut] w fun e w' => e = .returned (.bool true) ∧ Below w.heap.size w w' := by
  obtain ⟨i0, hi, hz0, hz1, hz2⟩ := info_parts Tryd.infoU8'
  obtain ⟨K, hK, hKe⟩ := rem_at cut 129 (by decide) (by decide)
  have HTD := torn_told s t hs hg hok hokt hlt h255 K (by omega)
  have HTT := torn_top s t hok hlt h255 K (by omega)
  have HM : Hid (getS (torn (sect t) (sect s) K) = none ∨ getS (torn (sect t) (sect s) K) = some s ∨ getS (torn (sect t) (sect s) K) = some t) := by
    unfold Hid getS
    rw [if_pos (by rw [torn_length _ _ _ (by rw [sect_length, sect_length]) (by rw [sect_length]; omega), sect_length])]
    exact HTD
  have HTop : Hid (topS (torn (sect t) (sect s) K ++ zl 128) = if 4 < K then t.gen else s.gen) := HTT
  clear HTD HTT
  have HT : Hid (Steps w) := ht
  have HF : Hid s.Fits := hs
  have HG : Hid t.Fits := hg
  clear ht hs hg
  have hlt' : ¬ t.gen ≤ s.gen := by omega
  have h255' : ¬ 255 < t.gen := by omega
  go_enter Tryd.func7, Tryd.ntmps7
  go_wp2_with fail
  refine (awake5 _ ((HT.out.alloc _).alloc _)).mono ?_
  rintro e w1 ⟨rfl, hb1⟩
  have S1 : Hid (SupAt w1 w.heap.size s) := (two_sups w s t).1.same hb1 (by simp; omega)
  have T1 : Hid (SupAt w1 (w.heap.size + 1) t) := (two_sups w s t).2.1.same hb1 (by simp)
  have B1 : Hid (Below w.heap.size w w1) := (two_sups w s t).2.2.trans (hb1.mono (by simp; omega))
  clear hb1
  obtain ⟨k0, k1, k2, k3, k4, k5, k6, k7⟩ := S1.out.cells
  go_wp2_with fail
  refine (refRight5 s HF.out w1).mono ?_
  rintro e w2 ⟨rfl, hb2⟩
  rw [hok]
  have S2 : Hid (SupAt w2 w.heap.size s) := S1.out.same hb2 S1.out.lt
  have T2 : Hid (SupAt w2 (w.heap.size + 1) t) := T1.out.same hb2 T1.out.lt
  have B2 : Hid (Below w.heap.size w w2) := B1.out.trans (hb2.mono B1.out.size)
  clear hb2 k0 k1 k2 k3 k4 k5 k6 k7
  obtain ⟨k0, k1, k2, k3, k4, k5, k6, k7⟩ := T2.out.cells
  go_wp2_with fail
  refine (refRight5 t HG.out w2).mono ?_
  rintro e w3 ⟨rfl, hb3⟩
  rw [hokt]
  have S3 : Hid (SupAt w3 w.heap.size s) := S2.out.same hb3 S2.out.lt
  have T3 : Hid (SupAt w3 (w.heap.size + 1) t) := T2.out.same hb3 T2.out.lt
  have B3 : Hid (Below w.heap.size w w3) := B2.out.trans (hb3.mono B2.out.size)
  clear hb3 k0 k1 k2 k3 k4 k5 k6 k7
  obtain ⟨k0, k1, k2, k3, k4, k5, k6, k7⟩ := S3.out.cells
  obtain ⟨l0, _⟩ := T3.out.cells
  go_wp2_with fail
  refine (put_ok s HF.out hok _ (HT.out.below B3.out)).mono ?_
  rintro e w4 ⟨p, rfl, g4, hp, hb4⟩
  have S4 : Hid (SupAt w4 w.heap.size s) := S3.out.same hb4 S3.out.lt
  have T4 : Hid (SupAt w4 (w.heap.size + 1) t) := T3.out.same hb4 T3.out.lt
  have B4 : Hid (Below w.heap.size w w4) := B3.out.trans (hb4.mono B3.out.size)
  have G4 : Hid (w4.heap[p]? = some (.cells (u8s (sect s)).toArray 43 (0, 0))) := g4
  clear g4 hb4 hp k0 k1 k2 k3 k4 k5 k6 k7 l0
  obtain ⟨k0, k1, k2, k3, k4, k5, k6, k7⟩ := T4.out.cells
  go_wp2_with fail
  refine (put_ok t HG.out hokt _ (HT.out.below B4.out)).mono ?_
  rintro e w5 ⟨q, rfl, g5, hq, hb5⟩
  have S5 : Hid (SupAt w5 w.heap.size s) := S4.out.same hb5 S4.out.lt
  have T5 : Hid (SupAt w5 (w.heap.size + 1) t) := T4.out.same hb5 T4.out.lt
  have B5 : Hid (Below w.heap.size w w5) := B4.out.trans (hb5.mono B4.out.size)
  have GA : Hid (w5.heap[p]? = some (.cells (u8s (sect s)).toArray 43 (0, 0))) := row_same G4.out hb5 (lt_of_heap G4.out)
  have GB : Hid (w5.heap[q]? = some (.cells (u8s (sect t)).toArray 43 (0, 0))) := g5
  have HAL : Hid ((sect s).length = 128) := sect_length _
  have HBL : Hid ((sect t).length = 128) := sect_length _
  have HAS : Hid (∀ z ∈ sect s, z < 256) := sect_small _
  have HBS : Hid (∀ z ∈ sect t, z < 256) := sect_small _
  clear g5 hb5 hq k0 k1 k2 k3 k4 k5 k6 k7 G4 S4 T4
  generalize sect s = A at *
  generalize sect t = Bq at *
  have hK0 : (0 : Int) ≤ (K : Int) := by omega
  have hK1 : (K : Int) ≤ 128 := by omega
  have hK2 : K ≤ 128 := by omega
  have OB : Hid (∀ w', Below w5.heap.size w5 w' → Octs w' (.slice (some ⟨q, 0, none⟩) K 128) (Bq.take K)) := fun w' h => octs_first (row_same GB.out h (lt_of_heap GB.out)) HBS.out HBL.out K hK2
  obtain ⟨pa, hpa, hoa⟩ : ∃ pa, (if 128 = K then some (⟨p, 0, none⟩ : Addr) else some ⟨p, K, none⟩) = some pa ∧ ∀ w', Below w5.heap.size w5 w' → Octs w' (.slice (some pa) (128 - K) (128 - K)) (A.drop K) := by
    by_cases h : 128 = K
    · exact ⟨_, if_pos h, fun w' hb => octs_last (row_same GA.out hb (lt_of_heap GA.out)) HAS.out HAL.out K hK2 _ (fun hn => by omega)⟩
    · exact ⟨_, if_neg h, fun w' hb => octs_last (row_same GA.out hb (lt_of_heap GA.out)) HAS.out HAL.out K hK2 _ (fun _ => rfl)⟩
  have OA : Hid (∀ w', Below w5.heap.size w5 w' → Octs w' (.slice (some pa) (128 - K) (128 - K)) (A.drop K)) := hoa
  clear hoa
  go_wp2_with fail
  go_region_law (first
    | (refine step_append_octs (by rfl) _ _ 26 (by rfl) w5.heap.size 5 i0 Tryd.underlying26 hi hz0 hz1 hz2 _ 0 [] (by rfl) (World.ownsRow_made _ #[] 0 (Nat.le_refl _) (by decide) rfl) _ (Bq.take K) (by rfl) (OB.out _ ((Below.refl _ _).drew.alloc (Nat.le_refl _) _)) (by rw [List.length_take]; omega) (by simp) ?_
       intro v6 w6 hown6 hg6
       have HB6 : Hid (Below w5.heap.size w5 w6) := ((Below.refl _ _).drew.alloc (Nat.le_refl _) _).trans (below_grown (World.ownsRow_made _ #[] 0 (Nat.le_refl _) (by decide) rfl) hg6 (by simp))
       clear hg6)
    | (refine step_append_octs (by rfl) _ _ 26 (by rfl) w5.heap.size 5 i0 Tryd.underlying26 hi hz0 hz1 hz2 _ (0 + (Bq.take K).length) ([] ++ Bq.take K) (by rfl) hown6 _ (A.drop K) (by rfl) (OA.out _ HB6.out) (by rw [List.length_take, List.length_drop, HAL.out]; omega) HB6.out.size ?_
       intro v7 w7 hown7 hg7
       have HB7 : Hid (Below w5.heap.size w5 w7) := HB6.out.trans (below_grown hown6 hg7 HB6.out.size)
       clear hg7 hown6))
  have HO7 : Hid (Octs w7 v7 (torn Bq A K)) := Octs.owned hown7 (fun z hz => by
    rcases List.mem_append.1 hz with h | h
    · exact HBS.out z (List.mem_of_mem_take h)
    · exact HAS.out z (List.mem_of_mem_drop h))
  have HXL : Hid ((torn Bq A K).length = 128) := by unfold Hid; rw [torn_length _ _ _ (by rw [HAL.out, HBL.out]) (by rw [HBL.out]; exact hK2), HBL.out]
  have HXS : Hid (∀ z ∈ torn Bq A K, z < 256) := HO7.out.small
  clear hown7 hpa OA OB GA GB HAL HBL HAS HBS
  generalize torn Bq A K = X at *
  obtain ⟨a7, cap7, rfl⟩ := HO7.out.shape
  rw [HXL.out] at HO7 ⊢
  have HS7 : Hid (∀ w', Below w7.heap.size w7 w' → SupAt w' w.heap.size s ∧ SupAt w' (w.heap.size + 1) t) := fun w' h => by
    have h2 := HB7.out.trans (h.mono HB7.out.size)
    exact ⟨S5.out.same h2 S5.out.lt, T5.out.same h2 T5.out.lt⟩
  have B7 : Hid (Below w.heap.size w w7) := B5.out.trans (HB7.out.mono B5.out.size)
  clear S5 T5 HB7 B5
  have hne : (t.gen == s.gen) = false := by simp; omega
  have hne2 : ¬ t.gen = s.gen := by omega
  have hne3 : (s.gen == t.gen) = false := by simp; omega
  have hne4 : ¬ s.gen = t.gen := by omega
  obtain ⟨T, hTe⟩ : ∃ T : Int, T = topS (X ++ zl 128) := ⟨_, rfl⟩
  have HTe : Hid (topS (X ++ zl 128) = T) := hTe.symm
  have hT : (4 < K ∧ T = t.gen) ∨ (¬ 4 < K ∧ T = s.gen) := by
    rw [hTe, HTop.out]
    by_cases h : 4 < K
    · exact .inl ⟨h, if_pos h⟩
    · exact .inr ⟨h, if_neg h⟩
  clear hTe HTop
  go_wp2_with fail
  refine (get5 _ X _ HO7.out (HT.out.below B7.out)).mono ?_
  rintro e w8 ⟨rfl, hb8⟩
  have H8 : Hid (Below w7.heap.size w7 w8) := hb8
  clear hb8
  rcases HM.out with hm | hm | hm
  · rw [hm]
    have HV : Hid (toldV (none) = .tuple #[.agg #[.int .i64 0, .int .i64 0, .int .i64 0, .int .i64 0, .int .i64 0, .int .u32 0, .int .i64 0, .int .i64 0], .bool false]) := rfl
    rw [HV.out]
    have HY : Hid (Below w7.heap.size w7 (w8.alloc (.cells #[.int .i64 0, .int .i64 0, .int .i64 0, .int .i64 0, .int .i64 0, .int .u32 0, .int .i64 0, .int .i64 0] 24))) := H8.out.alloc H8.out.size _
    have HU : Hid (SupAt (w8.alloc (.cells #[.int .i64 0, .int .i64 0, .int .i64 0, .int .i64 0, .int .i64 0, .int .u32 0, .int .i64 0, .int .i64 0] 24)) w8.heap.size Sup.zero) := heap_alloc_new _ _
    have hY : w7.heap.size ≤ (w8.alloc (.cells #[.int .i64 0, .int .i64 0, .int .i64 0, .int .i64 0, .int .i64 0, .int .u32 0, .int .i64 0, .int .i64 0] 24)).heap.size := HY.out.size
    obtain ⟨⟨k0, k1, k2, k3, k4, k5, k6, k7⟩, ⟨l0, l1, l2, l3, l4, l5, l6, l7⟩⟩ : ((w8.alloc (.cells #[.int .i64 0, .int .i64 0, .int .i64 0, .int .i64 0, .int .i64 0, .int .u32 0, .int .i64 0, .int .i64 0] 24)).cell? ⟨w.heap.size, 0, none⟩ = some (.int .i64 s.gen) ∧ (w8.alloc (.cells #[.int .i64 0, .int .i64 0, .int .i64 0, .int .i64 0, .int .i64 0, .int .u32 0, .int .i64 0, .int .i64 0] 24)).cell? ⟨w.heap.size, 1, none⟩ = some (.int .i64 s.journal) ∧ (w8.alloc (.cells #[.int .i64 0, .int .i64 0, .int .i64 0, .int .i64 0, .int .i64 0, .int .u32 0, .int .i64 0, .int .i64 0] 24)).cell? ⟨w.heap.size, 2, none⟩ = some (.int .i64 s.area) ∧ (w8.alloc (.cells #[.int .i64 0, .int .i64 0, .int .i64 0, .int .i64 0, .int .i64 0, .int .u32 0, .int .i64 0, .int .i64 0] 24)).cell? ⟨w.heap.size, 3, none⟩ = some (.int .i64 s.which) ∧ (w8.alloc (.cells #[.int .i64 0, .int .i64 0, .int .i64 0, .int .i64 0, .int .i64 0, .int .u32 0, .int .i64 0, .int .i64 0] 24)).cell? ⟨w.heap.size, 4, none⟩ = some (.int .i64 s.len) ∧ (w8.alloc (.cells #[.int .i64 0, .int .i64 0, .int .i64 0, .int .i64 0, .int .i64 0, .int .u32 0, .int .i64 0, .int .i64 0] 24)).cell? ⟨w.heap.size, 5, none⟩ = some (.int .u32 s.sum) ∧ (w8.alloc (.cells #[.int .i64 0, .int .i64 0, .int .i64 0, .int .i64 0, .int .i64 0, .int .u32 0, .int .i64 0, .int .i64 0] 24)).cell? ⟨w.heap.size, 6, none⟩ = some (.int .i64 s.epoch) ∧ (w8.alloc (.cells #[.int .i64 0, .int .i64 0, .int .i64 0, .int .i64 0, .int .i64 0, .int .u32 0, .int .i64 0, .int .i64 0] 24)).cell? ⟨w.heap.size, 7, none⟩ = some (.int .i64 s.start)) ∧ ((w8.alloc (.cells #[.int .i64 0, .int .i64 0, .int .i64 0, .int .i64 0, .int .i64 0, .int .u32 0, .int .i64 0, .int .i64 0] 24)).cell? ⟨(w.heap.size + 1), 0, none⟩ = some (.int .i64 t.gen) ∧ (w8.alloc (.cells #[.int .i64 0, .int .i64 0, .int .i64 0, .int .i64 0, .int .i64 0, .int .u32 0, .int .i64 0, .int .i64 0] 24)).cell? ⟨(w.heap.size + 1), 1, none⟩ = some (.int .i64 t.journal) ∧ (w8.alloc (.cells #[.int .i64 0, .int .i64 0, .int .i64 0, .int .i64 0, .int .i64 0, .int .u32 0, .int .i64 0, .int .i64 0] 24)).cell? ⟨(w.heap.size + 1), 2, none⟩ = some (.int .i64 t.area) ∧ (w8.alloc (.cells #[.int .i64 0, .int .i64 0, .int .i64 0, .int .i64 0, .int .i64 0, .int .u32 0, .int .i64 0, .int .i64 0] 24)).cell? ⟨(w.heap.size + 1), 3, none⟩ = some (.int .i64 t.which) ∧ (w8.alloc (.cells #[.int .i64 0, .int .i64 0, .int .i64 0, .int .i64 0, .int .i64 0, .int .u32 0, .int .i64 0, .int .i64 0] 24)).cell? ⟨(w.heap.size + 1), 4, none⟩ = some (.int .i64 t.len) ∧ (w8.alloc (.cells #[.int .i64 0, .int .i64 0, .int .i64 0, .int .i64 0, .int .i64 0, .int .u32 0, .int .i64 0, .int .i64 0] 24)).cell? ⟨(w.heap.size + 1), 5, none⟩ = some (.int .u32 t.sum) ∧ (w8.alloc (.cells #[.int .i64 0, .int .i64 0, .int .i64 0, .int .i64 0, .int .i64 0, .int .u32 0, .int .i64 0, .int .i64 0] 24)).cell? ⟨(w.heap.size + 1), 6, none⟩ = some (.int .i64 t.epoch) ∧ (w8.alloc (.cells #[.int .i64 0, .int .i64 0, .int .i64 0, .int .i64 0, .int .i64 0, .int .u32 0, .int .i64 0, .int .i64 0] 24)).cell? ⟨(w.heap.size + 1), 7, none⟩ = some (.int .i64 t.start)) := ⟨(HS7.out _ HY.out).1.cells, (HS7.out _ HY.out).2.cells⟩
    obtain ⟨u0, u1, u2, u3, u4, u5, u6, u7⟩ : (w8.alloc (.cells #[.int .i64 0, .int .i64 0, .int .i64 0, .int .i64 0, .int .i64 0, .int .u32 0, .int .i64 0, .int .i64 0] 24)).cell? ⟨w8.heap.size, 0, none⟩ = some (.int .i64 Sup.zero.gen) ∧ (w8.alloc (.cells #[.int .i64 0, .int .i64 0, .int .i64 0, .int .i64 0, .int .i64 0, .int .u32 0, .int .i64 0, .int .i64 0] 24)).cell? ⟨w8.heap.size, 1, none⟩ = some (.int .i64 Sup.zero.journal) ∧ (w8.alloc (.cells #[.int .i64 0, .int .i64 0, .int .i64 0, .int .i64 0, .int .i64 0, .int .u32 0, .int .i64 0, .int .i64 0] 24)).cell? ⟨w8.heap.size, 2, none⟩ = some (.int .i64 Sup.zero.area) ∧ (w8.alloc (.cells #[.int .i64 0, .int .i64 0, .int .i64 0, .int .i64 0, .int .i64 0, .int .u32 0, .int .i64 0, .int .i64 0] 24)).cell? ⟨w8.heap.size, 3, none⟩ = some (.int .i64 Sup.zero.which) ∧ (w8.alloc (.cells #[.int .i64 0, .int .i64 0, .int .i64 0, .int .i64 0, .int .i64 0, .int .u32 0, .int .i64 0, .int .i64 0] 24)).cell? ⟨w8.heap.size, 4, none⟩ = some (.int .i64 Sup.zero.len) ∧ (w8.alloc (.cells #[.int .i64 0, .int .i64 0, .int .i64 0, .int .i64 0, .int .i64 0, .int .u32 0, .int .i64 0, .int .i64 0] 24)).cell? ⟨w8.heap.size, 5, none⟩ = some (.int .u32 Sup.zero.sum) ∧ (w8.alloc (.cells #[.int .i64 0, .int .i64 0, .int .i64 0, .int .i64 0, .int .i64 0, .int .u32 0, .int .i64 0, .int .i64 0] 24)).cell? ⟨w8.heap.size, 6, none⟩ = some (.int .i64 Sup.zero.epoch) ∧ (w8.alloc (.cells #[.int .i64 0, .int .i64 0, .int .i64 0, .int .i64 0, .int .i64 0, .int .u32 0, .int .i64 0, .int .i64 0] 24)).cell? ⟨w8.heap.size, 7, none⟩ = some (.int .i64 Sup.zero.start) := HU.out.cells
    have hownY : ((w8.alloc (.cells #[.int .i64 0, .int .i64 0, .int .i64 0, .int .i64 0, .int .i64 0, .int .u32 0, .int .i64 0, .int .i64 0] 24)).alloc (.cells #[] 5)).ownsRow w7.heap.size 5 1 (.slice (some ⟨w8.heap.size + 1, 0, none⟩) 0 0) 0 (u8s []) := by
      have := World.ownsRow_made (w := (w8.alloc (.cells #[.int .i64 0, .int .i64 0, .int .i64 0, .int .i64 0, .int .i64 0, .int .u32 0, .int .i64 0, .int .i64 0] 24))) (e := 5) (size := 1) (base := w7.heap.size) #[] 0 hY (by decide) rfl
      rwa [show (w8.alloc (.cells #[.int .i64 0, .int .i64 0, .int .i64 0, .int .i64 0, .int .i64 0, .int .u32 0, .int .i64 0, .int .i64 0] 24)).heap.size = w8.heap.size + 1 by simp] at this
    go_wp2_with (at_builtin; go_must (refine wpList_append_octs _ rfl _ _ 26 rfl w7.heap.size 5 i0 Tryd.underlying26 hi hz0 hz1 hz2 _ 0 [] rfl hownY _ X rfl (HO7.out.kept (HY.out.alloc hY _)) ?d1 ?d2 ?_))
    case d1 => rw [HXL.out]; decide
    case d2 => have := H8.out.size; simp; omega
    intro v9 w9 hown9 hg9
    have HB9 : Hid (Below w7.heap.size w7 w9) := (HY.out.alloc hY _).trans (below_grown hownY hg9 (by have := H8.out.size; simp; omega))
    have hs9 : w7.heap.size ≤ w9.heap.size := HB9.out.size
    clear hg9 k0 k1 k2 k3 k4 k5 k6 k7 l0 l1 l2 l3 l4 l5 l6 l7 u0 u1 u2 u3 u4 u5 u6 u7 HY HU hY hownY
    go_wp2_with (at_builtin; go_must (refine wpList_append_zeros _ rfl _ _ 26 3 9 rfl w7.heap.size 5 i0 Tryd.underlying26 Tryd.underlying3 Tryd.underlying9 hi hz0 hz1 hz2 _ X.length X rfl hown9 128 rfl (by decide) (by decide) ?d3 hs9 ?_))
    case d3 => rw [HXL.out]; decide
    intro v10 w10 hown10 hg10
    have HBa : Hid (Below w7.heap.size w7 w10) := HB9.out.trans (below_grown hown9 hg10 hs9)
    have HOa : Hid (Octs w10 v10 (X ++ zl 128)) := Octs.owned hown10 (fun z hz => by
      rcases List.mem_append.1 hz with h | h
      · exact HXS.out z h
      · exact zl_small _ z h)
    clear hown9 hown10 hg10
    go_wp2_with fail
    refine (top_v _ _ _ HOa.out).mono ?_
    rintro e w11 ⟨rfl, hb11⟩
    rw [HTe.out]
    have HBd : Hid (Below w7.heap.size w7 w11) := HBa.out.trans (hb11.mono HBa.out.size)
    have HBe : Hid (Below w.heap.size w w11) := B7.out.trans (HBd.out.mono B7.out.size)
    obtain ⟨k0, _⟩ := (HS7.out _ HBd.out).1.cells
    obtain ⟨l0, _⟩ := (HS7.out _ HBd.out).2.cells
    clear hb11
    rcases hT with h1 | h1
    · obtain ⟨h4, rfl⟩ := h1
      have h4a : (4 : Int) < (K : Int) := by omega
      go_wp2
      go_ret
      exact ⟨rfl, HBe.out⟩
    · obtain ⟨h4, rfl⟩ := h1
      have h4a : (K : Int) ≤ 4 := by omega
      have h4b : ¬ (4 : Int) < (K : Int) := by omega
      go_wp2
      go_ret
      exact ⟨rfl, HBe.out⟩
  · rw [hm]
    have HV : Hid (toldV (some s) = .tuple #[.agg #[.int .i64 s.gen, .int .i64 s.journal, .int .i64 s.area, .int .i64 s.which, .int .i64 s.len, .int .u32 s.sum, .int .i64 s.epoch, .int .i64 s.start], .bool true]) := rfl
    rw [HV.out]
    have HY : Hid (Below w7.heap.size w7 (w8.alloc (.cells #[.int .i64 s.gen, .int .i64 s.journal, .int .i64 s.area, .int .i64 s.which, .int .i64 s.len, .int .u32 s.sum, .int .i64 s.epoch, .int .i64 s.start] 24))) := H8.out.alloc H8.out.size _
    have HU : Hid (SupAt (w8.alloc (.cells #[.int .i64 s.gen, .int .i64 s.journal, .int .i64 s.area, .int .i64 s.which, .int .i64 s.len, .int .u32 s.sum, .int .i64 s.epoch, .int .i64 s.start] 24)) w8.heap.size s) := heap_alloc_new _ _
    have hY : w7.heap.size ≤ (w8.alloc (.cells #[.int .i64 s.gen, .int .i64 s.journal, .int .i64 s.area, .int .i64 s.which, .int .i64 s.len, .int .u32 s.sum, .int .i64 s.epoch, .int .i64 s.start] 24)).heap.size := HY.out.size
    obtain ⟨⟨k0, k1, k2, k3, k4, k5, k6, k7⟩, ⟨l0, l1, l2, l3, l4, l5, l6, l7⟩⟩ : ((w8.alloc (.cells #[.int .i64 s.gen, .int .i64 s.journal, .int .i64 s.area, .int .i64 s.which, .int .i64 s.len, .int .u32 s.sum, .int .i64 s.epoch, .int .i64 s.start] 24)).cell? ⟨w.heap.size, 0, none⟩ = some (.int .i64 s.gen) ∧ (w8.alloc (.cells #[.int .i64 s.gen, .int .i64 s.journal, .int .i64 s.area, .int .i64 s.which, .int .i64 s.len, .int .u32 s.sum, .int .i64 s.epoch, .int .i64 s.start] 24)).cell? ⟨w.heap.size, 1, none⟩ = some (.int .i64 s.journal) ∧ (w8.alloc (.cells #[.int .i64 s.gen, .int .i64 s.journal, .int .i64 s.area, .int .i64 s.which, .int .i64 s.len, .int .u32 s.sum, .int .i64 s.epoch, .int .i64 s.start] 24)).cell? ⟨w.heap.size, 2, none⟩ = some (.int .i64 s.area) ∧ (w8.alloc (.cells #[.int .i64 s.gen, .int .i64 s.journal, .int .i64 s.area, .int .i64 s.which, .int .i64 s.len, .int .u32 s.sum, .int .i64 s.epoch, .int .i64 s.start] 24)).cell? ⟨w.heap.size, 3, none⟩ = some (.int .i64 s.which) ∧ (w8.alloc (.cells #[.int .i64 s.gen, .int .i64 s.journal, .int .i64 s.area, .int .i64 s.which, .int .i64 s.len, .int .u32 s.sum, .int .i64 s.epoch, .int .i64 s.start] 24)).cell? ⟨w.heap.size, 4, none⟩ = some (.int .i64 s.len) ∧ (w8.alloc (.cells #[.int .i64 s.gen, .int .i64 s.journal, .int .i64 s.area, .int .i64 s.which, .int .i64 s.len, .int .u32 s.sum, .int .i64 s.epoch, .int .i64 s.start] 24)).cell? ⟨w.heap.size, 5, none⟩ = some (.int .u32 s.sum) ∧ (w8.alloc (.cells #[.int .i64 s.gen, .int .i64 s.journal, .int .i64 s.area, .int .i64 s.which, .int .i64 s.len, .int .u32 s.sum, .int .i64 s.epoch, .int .i64 s.start] 24)).cell? ⟨w.heap.size, 6, none⟩ = some (.int .i64 s.epoch) ∧ (w8.alloc (.cells #[.int .i64 s.gen, .int .i64 s.journal, .int .i64 s.area, .int .i64 s.which, .int .i64 s.len, .int .u32 s.sum, .int .i64 s.epoch, .int .i64 s.start] 24)).cell? ⟨w.heap.size, 7, none⟩ = some (.int .i64 s.start)) ∧ ((w8.alloc (.cells #[.int .i64 s.gen, .int .i64 s.journal, .int .i64 s.area, .int .i64 s.which, .int .i64 s.len, .int .u32 s.sum, .int .i64 s.epoch, .int .i64 s.start] 24)).cell? ⟨(w.heap.size + 1), 0, none⟩ = some (.int .i64 t.gen) ∧ (w8.alloc (.cells #[.int .i64 s.gen, .int .i64 s.journal, .int .i64 s.area, .int .i64 s.which, .int .i64 s.len, .int .u32 s.sum, .int .i64 s.epoch, .int .i64 s.start] 24)).cell? ⟨(w.heap.size + 1), 1, none⟩ = some (.int .i64 t.journal) ∧ (w8.alloc (.cells #[.int .i64 s.gen, .int .i64 s.journal, .int .i64 s.area, .int .i64 s.which, .int .i64 s.len, .int .u32 s.sum, .int .i64 s.epoch, .int .i64 s.start] 24)).cell? ⟨(w.heap.size + 1), 2, none⟩ = some (.int .i64 t.area) ∧ (w8.alloc (.cells #[.int .i64 s.gen, .int .i64 s.journal, .int .i64 s.area, .int .i64 s.which, .int .i64 s.len, .int .u32 s.sum, .int .i64 s.epoch, .int .i64 s.start] 24)).cell? ⟨(w.heap.size + 1), 3, none⟩ = some (.int .i64 t.which) ∧ (w8.alloc (.cells #[.int .i64 s.gen, .int .i64 s.journal, .int .i64 s.area, .int .i64 s.which, .int .i64 s.len, .int .u32 s.sum, .int .i64 s.epoch, .int .i64 s.start] 24)).cell? ⟨(w.heap.size + 1), 4, none⟩ = some (.int .i64 t.len) ∧ (w8.alloc (.cells #[.int .i64 s.gen, .int .i64 s.journal, .int .i64 s.area, .int .i64 s.which, .int .i64 s.len, .int .u32 s.sum, .int .i64 s.epoch, .int .i64 s.start] 24)).cell? ⟨(w.heap.size + 1), 5, none⟩ = some (.int .u32 t.sum) ∧ (w8.alloc (.cells #[.int .i64 s.gen, .int .i64 s.journal, .int .i64 s.area, .int .i64 s.which, .int .i64 s.len, .int .u32 s.sum, .int .i64 s.epoch, .int .i64 s.start] 24)).cell? ⟨(w.heap.size + 1), 6, none⟩ = some (.int .i64 t.epoch) ∧ (w8.alloc (.cells #[.int .i64 s.gen, .int .i64 s.journal, .int .i64 s.area, .int .i64 s.which, .int .i64 s.len, .int .u32 s.sum, .int .i64 s.epoch, .int .i64 s.start] 24)).cell? ⟨(w.heap.size + 1), 7, none⟩ = some (.int .i64 t.start)) := ⟨(HS7.out _ HY.out).1.cells, (HS7.out _ HY.out).2.cells⟩
    obtain ⟨u0, u1, u2, u3, u4, u5, u6, u7⟩ : (w8.alloc (.cells #[.int .i64 s.gen, .int .i64 s.journal, .int .i64 s.area, .int .i64 s.which, .int .i64 s.len, .int .u32 s.sum, .int .i64 s.epoch, .int .i64 s.start] 24)).cell? ⟨w8.heap.size, 0, none⟩ = some (.int .i64 s.gen) ∧ (w8.alloc (.cells #[.int .i64 s.gen, .int .i64 s.journal, .int .i64 s.area, .int .i64 s.which, .int .i64 s.len, .int .u32 s.sum, .int .i64 s.epoch, .int .i64 s.start] 24)).cell? ⟨w8.heap.size, 1, none⟩ = some (.int .i64 s.journal) ∧ (w8.alloc (.cells #[.int .i64 s.gen, .int .i64 s.journal, .int .i64 s.area, .int .i64 s.which, .int .i64 s.len, .int .u32 s.sum, .int .i64 s.epoch, .int .i64 s.start] 24)).cell? ⟨w8.heap.size, 2, none⟩ = some (.int .i64 s.area) ∧ (w8.alloc (.cells #[.int .i64 s.gen, .int .i64 s.journal, .int .i64 s.area, .int .i64 s.which, .int .i64 s.len, .int .u32 s.sum, .int .i64 s.epoch, .int .i64 s.start] 24)).cell? ⟨w8.heap.size, 3, none⟩ = some (.int .i64 s.which) ∧ (w8.alloc (.cells #[.int .i64 s.gen, .int .i64 s.journal, .int .i64 s.area, .int .i64 s.which, .int .i64 s.len, .int .u32 s.sum, .int .i64 s.epoch, .int .i64 s.start] 24)).cell? ⟨w8.heap.size, 4, none⟩ = some (.int .i64 s.len) ∧ (w8.alloc (.cells #[.int .i64 s.gen, .int .i64 s.journal, .int .i64 s.area, .int .i64 s.which, .int .i64 s.len, .int .u32 s.sum, .int .i64 s.epoch, .int .i64 s.start] 24)).cell? ⟨w8.heap.size, 5, none⟩ = some (.int .u32 s.sum) ∧ (w8.alloc (.cells #[.int .i64 s.gen, .int .i64 s.journal, .int .i64 s.area, .int .i64 s.which, .int .i64 s.len, .int .u32 s.sum, .int .i64 s.epoch, .int .i64 s.start] 24)).cell? ⟨w8.heap.size, 6, none⟩ = some (.int .i64 s.epoch) ∧ (w8.alloc (.cells #[.int .i64 s.gen, .int .i64 s.journal, .int .i64 s.area, .int .i64 s.which, .int .i64 s.len, .int .u32 s.sum, .int .i64 s.epoch, .int .i64 s.start] 24)).cell? ⟨w8.heap.size, 7, none⟩ = some (.int .i64 s.start) := HU.out.cells
    have hownY : ((w8.alloc (.cells #[.int .i64 s.gen, .int .i64 s.journal, .int .i64 s.area, .int .i64 s.which, .int .i64 s.len, .int .u32 s.sum, .int .i64 s.epoch, .int .i64 s.start] 24)).alloc (.cells #[] 5)).ownsRow w7.heap.size 5 1 (.slice (some ⟨w8.heap.size + 1, 0, none⟩) 0 0) 0 (u8s []) := by
      have := World.ownsRow_made (w := (w8.alloc (.cells #[.int .i64 s.gen, .int .i64 s.journal, .int .i64 s.area, .int .i64 s.which, .int .i64 s.len, .int .u32 s.sum, .int .i64 s.epoch, .int .i64 s.start] 24))) (e := 5) (size := 1) (base := w7.heap.size) #[] 0 hY (by decide) rfl
      rwa [show (w8.alloc (.cells #[.int .i64 s.gen, .int .i64 s.journal, .int .i64 s.area, .int .i64 s.which, .int .i64 s.len, .int .u32 s.sum, .int .i64 s.epoch, .int .i64 s.start] 24)).heap.size = w8.heap.size + 1 by simp] at this
    go_wp2_with (at_builtin; go_must (refine wpList_append_octs _ rfl _ _ 26 rfl w7.heap.size 5 i0 Tryd.underlying26 hi hz0 hz1 hz2 _ 0 [] rfl hownY _ X rfl (HO7.out.kept (HY.out.alloc hY _)) ?d1 ?d2 ?_))
    case d1 => rw [HXL.out]; decide
    case d2 => have := H8.out.size; simp; omega
    intro v9 w9 hown9 hg9
    have HB9 : Hid (Below w7.heap.size w7 w9) := (HY.out.alloc hY _).trans (below_grown hownY hg9 (by have := H8.out.size; simp; omega))
    have hs9 : w7.heap.size ≤ w9.heap.size := HB9.out.size
    clear hg9 k0 k1 k2 k3 k4 k5 k6 k7 l0 l1 l2 l3 l4 l5 l6 l7 u0 u1 u2 u3 u4 u5 u6 u7 HY HU hY hownY
    go_wp2_with (at_builtin; go_must (refine wpList_append_zeros _ rfl _ _ 26 3 9 rfl w7.heap.size 5 i0 Tryd.underlying26 Tryd.underlying3 Tryd.underlying9 hi hz0 hz1 hz2 _ X.length X rfl hown9 128 rfl (by decide) (by decide) ?d3 hs9 ?_))
    case d3 => rw [HXL.out]; decide
    intro v10 w10 hown10 hg10
    have HBa : Hid (Below w7.heap.size w7 w10) := HB9.out.trans (below_grown hown9 hg10 hs9)
    have HOa : Hid (Octs w10 v10 (X ++ zl 128)) := Octs.owned hown10 (fun z hz => by
      rcases List.mem_append.1 hz with h | h
      · exact HXS.out z h
      · exact zl_small _ z h)
    clear hown9 hown10 hg10
    go_wp2_with fail
    refine (top_v _ _ _ HOa.out).mono ?_
    rintro e w11 ⟨rfl, hb11⟩
    rw [HTe.out]
    have HBd : Hid (Below w7.heap.size w7 w11) := HBa.out.trans (hb11.mono HBa.out.size)
    have HBe : Hid (Below w.heap.size w w11) := B7.out.trans (HBd.out.mono B7.out.size)
    obtain ⟨k0, _⟩ := (HS7.out _ HBd.out).1.cells
    obtain ⟨l0, _⟩ := (HS7.out _ HBd.out).2.cells
    clear hb11
    rcases hT with h1 | h1
    · obtain ⟨h4, rfl⟩ := h1
      have h4a : (4 : Int) < (K : Int) := by omega
      go_wp2
      go_ret
      exact ⟨rfl, HBe.out⟩
    · obtain ⟨h4, rfl⟩ := h1
      have h4a : (K : Int) ≤ 4 := by omega
      have h4b : ¬ (4 : Int) < (K : Int) := by omega
      go_wp2
      go_ret
      exact ⟨rfl, HBe.out⟩
  · rw [hm]
    have HV : Hid (toldV (some t) = .tuple #[.agg #[.int .i64 t.gen, .int .i64 t.journal, .int .i64 t.area, .int .i64 t.which, .int .i64 t.len, .int .u32 t.sum, .int .i64 t.epoch, .int .i64 t.start], .bool true]) := rfl
    rw [HV.out]
    have HY : Hid (Below w7.heap.size w7 (w8.alloc (.cells #[.int .i64 t.gen, .int .i64 t.journal, .int .i64 t.area, .int .i64 t.which, .int .i64 t.len, .int .u32 t.sum, .int .i64 t.epoch, .int .i64 t.start] 24))) := H8.out.alloc H8.out.size _
    have HU : Hid (SupAt (w8.alloc (.cells #[.int .i64 t.gen, .int .i64 t.journal, .int .i64 t.area, .int .i64 t.which, .int .i64 t.len, .int .u32 t.sum, .int .i64 t.epoch, .int .i64 t.start] 24)) w8.heap.size t) := heap_alloc_new _ _
    have hY : w7.heap.size ≤ (w8.alloc (.cells #[.int .i64 t.gen, .int .i64 t.journal, .int .i64 t.area, .int .i64 t.which, .int .i64 t.len, .int .u32 t.sum, .int .i64 t.epoch, .int .i64 t.start] 24)).heap.size := HY.out.size
    obtain ⟨⟨k0, k1, k2, k3, k4, k5, k6, k7⟩, ⟨l0, l1, l2, l3, l4, l5, l6, l7⟩⟩ : ((w8.alloc (.cells #[.int .i64 t.gen, .int .i64 t.journal, .int .i64 t.area, .int .i64 t.which, .int .i64 t.len, .int .u32 t.sum, .int .i64 t.epoch, .int .i64 t.start] 24)).cell? ⟨w.heap.size, 0, none⟩ = some (.int .i64 s.gen) ∧ (w8.alloc (.cells #[.int .i64 t.gen, .int .i64 t.journal, .int .i64 t.area, .int .i64 t.which, .int .i64 t.len, .int .u32 t.sum, .int .i64 t.epoch, .int .i64 t.start] 24)).cell? ⟨w.heap.size, 1, none⟩ = some (.int .i64 s.journal) ∧ (w8.alloc (.cells #[.int .i64 t.gen, .int .i64 t.journal, .int .i64 t.area, .int .i64 t.which, .int .i64 t.len, .int .u32 t.sum, .int .i64 t.epoch, .int .i64 t.start] 24)).cell? ⟨w.heap.size, 2, none⟩ = some (.int .i64 s.area) ∧ (w8.alloc (.cells #[.int .i64 t.gen, .int .i64 t.journal, .int .i64 t.area, .int .i64 t.which, .int .i64 t.len, .int .u32 t.sum, .int .i64 t.epoch, .int .i64 t.start] 24)).cell? ⟨w.heap.size, 3, none⟩ = some (.int .i64 s.which) ∧ (w8.alloc (.cells #[.int .i64 t.gen, .int .i64 t.journal, .int .i64 t.area, .int .i64 t.which, .int .i64 t.len, .int .u32 t.sum, .int .i64 t.epoch, .int .i64 t.start] 24)).cell? ⟨w.heap.size, 4, none⟩ = some (.int .i64 s.len) ∧ (w8.alloc (.cells #[.int .i64 t.gen, .int .i64 t.journal, .int .i64 t.area, .int .i64 t.which, .int .i64 t.len, .int .u32 t.sum, .int .i64 t.epoch, .int .i64 t.start] 24)).cell? ⟨w.heap.size, 5, none⟩ = some (.int .u32 s.sum) ∧ (w8.alloc (.cells #[.int .i64 t.gen, .int .i64 t.journal, .int .i64 t.area, .int .i64 t.which, .int .i64 t.len, .int .u32 t.sum, .int .i64 t.epoch, .int .i64 t.start] 24)).cell? ⟨w.heap.size, 6, none⟩ = some (.int .i64 s.epoch) ∧ (w8.alloc (.cells #[.int .i64 t.gen, .int .i64 t.journal, .int .i64 t.area, .int .i64 t.which, .int .i64 t.len, .int .u32 t.sum, .int .i64 t.epoch, .int .i64 t.start] 24)).cell? ⟨w.heap.size, 7, none⟩ = some (.int .i64 s.start)) ∧ ((w8.alloc (.cells #[.int .i64 t.gen, .int .i64 t.journal, .int .i64 t.area, .int .i64 t.which, .int .i64 t.len, .int .u32 t.sum, .int .i64 t.epoch, .int .i64 t.start] 24)).cell? ⟨(w.heap.size + 1), 0, none⟩ = some (.int .i64 t.gen) ∧ (w8.alloc (.cells #[.int .i64 t.gen, .int .i64 t.journal, .int .i64 t.area, .int .i64 t.which, .int .i64 t.len, .int .u32 t.sum, .int .i64 t.epoch, .int .i64 t.start] 24)).cell? ⟨(w.heap.size + 1), 1, none⟩ = some (.int .i64 t.journal) ∧ (w8.alloc (.cells #[.int .i64 t.gen, .int .i64 t.journal, .int .i64 t.area, .int .i64 t.which, .int .i64 t.len, .int .u32 t.sum, .int .i64 t.epoch, .int .i64 t.start] 24)).cell? ⟨(w.heap.size + 1), 2, none⟩ = some (.int .i64 t.area) ∧ (w8.alloc (.cells #[.int .i64 t.gen, .int .i64 t.journal, .int .i64 t.area, .int .i64 t.which, .int .i64 t.len, .int .u32 t.sum, .int .i64 t.epoch, .int .i64 t.start] 24)).cell? ⟨(w.heap.size + 1), 3, none⟩ = some (.int .i64 t.which) ∧ (w8.alloc (.cells #[.int .i64 t.gen, .int .i64 t.journal, .int .i64 t.area, .int .i64 t.which, .int .i64 t.len, .int .u32 t.sum, .int .i64 t.epoch, .int .i64 t.start] 24)).cell? ⟨(w.heap.size + 1), 4, none⟩ = some (.int .i64 t.len) ∧ (w8.alloc (.cells #[.int .i64 t.gen, .int .i64 t.journal, .int .i64 t.area, .int .i64 t.which, .int .i64 t.len, .int .u32 t.sum, .int .i64 t.epoch, .int .i64 t.start] 24)).cell? ⟨(w.heap.size + 1), 5, none⟩ = some (.int .u32 t.sum) ∧ (w8.alloc (.cells #[.int .i64 t.gen, .int .i64 t.journal, .int .i64 t.area, .int .i64 t.which, .int .i64 t.len, .int .u32 t.sum, .int .i64 t.epoch, .int .i64 t.start] 24)).cell? ⟨(w.heap.size + 1), 6, none⟩ = some (.int .i64 t.epoch) ∧ (w8.alloc (.cells #[.int .i64 t.gen, .int .i64 t.journal, .int .i64 t.area, .int .i64 t.which, .int .i64 t.len, .int .u32 t.sum, .int .i64 t.epoch, .int .i64 t.start] 24)).cell? ⟨(w.heap.size + 1), 7, none⟩ = some (.int .i64 t.start)) := ⟨(HS7.out _ HY.out).1.cells, (HS7.out _ HY.out).2.cells⟩
    obtain ⟨u0, u1, u2, u3, u4, u5, u6, u7⟩ : (w8.alloc (.cells #[.int .i64 t.gen, .int .i64 t.journal, .int .i64 t.area, .int .i64 t.which, .int .i64 t.len, .int .u32 t.sum, .int .i64 t.epoch, .int .i64 t.start] 24)).cell? ⟨w8.heap.size, 0, none⟩ = some (.int .i64 t.gen) ∧ (w8.alloc (.cells #[.int .i64 t.gen, .int .i64 t.journal, .int .i64 t.area, .int .i64 t.which, .int .i64 t.len, .int .u32 t.sum, .int .i64 t.epoch, .int .i64 t.start] 24)).cell? ⟨w8.heap.size, 1, none⟩ = some (.int .i64 t.journal) ∧ (w8.alloc (.cells #[.int .i64 t.gen, .int .i64 t.journal, .int .i64 t.area, .int .i64 t.which, .int .i64 t.len, .int .u32 t.sum, .int .i64 t.epoch, .int .i64 t.start] 24)).cell? ⟨w8.heap.size, 2, none⟩ = some (.int .i64 t.area) ∧ (w8.alloc (.cells #[.int .i64 t.gen, .int .i64 t.journal, .int .i64 t.area, .int .i64 t.which, .int .i64 t.len, .int .u32 t.sum, .int .i64 t.epoch, .int .i64 t.start] 24)).cell? ⟨w8.heap.size, 3, none⟩ = some (.int .i64 t.which) ∧ (w8.alloc (.cells #[.int .i64 t.gen, .int .i64 t.journal, .int .i64 t.area, .int .i64 t.which, .int .i64 t.len, .int .u32 t.sum, .int .i64 t.epoch, .int .i64 t.start] 24)).cell? ⟨w8.heap.size, 4, none⟩ = some (.int .i64 t.len) ∧ (w8.alloc (.cells #[.int .i64 t.gen, .int .i64 t.journal, .int .i64 t.area, .int .i64 t.which, .int .i64 t.len, .int .u32 t.sum, .int .i64 t.epoch, .int .i64 t.start] 24)).cell? ⟨w8.heap.size, 5, none⟩ = some (.int .u32 t.sum) ∧ (w8.alloc (.cells #[.int .i64 t.gen, .int .i64 t.journal, .int .i64 t.area, .int .i64 t.which, .int .i64 t.len, .int .u32 t.sum, .int .i64 t.epoch, .int .i64 t.start] 24)).cell? ⟨w8.heap.size, 6, none⟩ = some (.int .i64 t.epoch) ∧ (w8.alloc (.cells #[.int .i64 t.gen, .int .i64 t.journal, .int .i64 t.area, .int .i64 t.which, .int .i64 t.len, .int .u32 t.sum, .int .i64 t.epoch, .int .i64 t.start] 24)).cell? ⟨w8.heap.size, 7, none⟩ = some (.int .i64 t.start) := HU.out.cells
    have hownY : ((w8.alloc (.cells #[.int .i64 t.gen, .int .i64 t.journal, .int .i64 t.area, .int .i64 t.which, .int .i64 t.len, .int .u32 t.sum, .int .i64 t.epoch, .int .i64 t.start] 24)).alloc (.cells #[] 5)).ownsRow w7.heap.size 5 1 (.slice (some ⟨w8.heap.size + 1, 0, none⟩) 0 0) 0 (u8s []) := by
      have := World.ownsRow_made (w := (w8.alloc (.cells #[.int .i64 t.gen, .int .i64 t.journal, .int .i64 t.area, .int .i64 t.which, .int .i64 t.len, .int .u32 t.sum, .int .i64 t.epoch, .int .i64 t.start] 24))) (e := 5) (size := 1) (base := w7.heap.size) #[] 0 hY (by decide) rfl
      rwa [show (w8.alloc (.cells #[.int .i64 t.gen, .int .i64 t.journal, .int .i64 t.area, .int .i64 t.which, .int .i64 t.len, .int .u32 t.sum, .int .i64 t.epoch, .int .i64 t.start] 24)).heap.size = w8.heap.size + 1 by simp] at this
    go_wp2_with (at_builtin; go_must (refine wpList_append_octs _ rfl _ _ 26 rfl w7.heap.size 5 i0 Tryd.underlying26 hi hz0 hz1 hz2 _ 0 [] rfl hownY _ X rfl (HO7.out.kept (HY.out.alloc hY _)) ?d1 ?d2 ?_))
    case d1 => rw [HXL.out]; decide
    case d2 => have := H8.out.size; simp; omega
    intro v9 w9 hown9 hg9
    have HB9 : Hid (Below w7.heap.size w7 w9) := (HY.out.alloc hY _).trans (below_grown hownY hg9 (by have := H8.out.size; simp; omega))
    have hs9 : w7.heap.size ≤ w9.heap.size := HB9.out.size
    clear hg9 k0 k1 k2 k3 k4 k5 k6 k7 l0 l1 l2 l3 l4 l5 l6 l7 u0 u1 u2 u3 u4 u5 u6 u7 HY HU hY hownY
    go_wp2_with (at_builtin; go_must (refine wpList_append_zeros _ rfl _ _ 26 3 9 rfl w7.heap.size 5 i0 Tryd.underlying26 Tryd.underlying3 Tryd.underlying9 hi hz0 hz1 hz2 _ X.length X rfl hown9 128 rfl (by decide) (by decide) ?d3 hs9 ?_))
    case d3 => rw [HXL.out]; decide
    intro v10 w10 hown10 hg10
    have HBa : Hid (Below w7.heap.size w7 w10) := HB9.out.trans (below_grown hown9 hg10 hs9)
    have HOa : Hid (Octs w10 v10 (X ++ zl 128)) := Octs.owned hown10 (fun z hz => by
      rcases List.mem_append.1 hz with h | h
      · exact HXS.out z h
      · exact zl_small _ z h)
    clear hown9 hown10 hg10
    go_wp2_with fail
    refine (top_v _ _ _ HOa.out).mono ?_
    rintro e w11 ⟨rfl, hb11⟩
    rw [HTe.out]
    have HBd : Hid (Below w7.heap.size w7 w11) := HBa.out.trans (hb11.mono HBa.out.size)
    have HBe : Hid (Below w.heap.size w w11) := B7.out.trans (HBd.out.mono B7.out.size)
    obtain ⟨k0, _⟩ := (HS7.out _ HBd.out).1.cells
    obtain ⟨l0, _⟩ := (HS7.out _ HBd.out).2.cells
    clear hb11
    rcases hT with h1 | h1
    · obtain ⟨h4, rfl⟩ := h1
      have h4a : (4 : Int) < (K : Int) := by omega
      go_wp2
      go_ret
      exact ⟨rfl, HBe.out⟩
    · obtain ⟨h4, rfl⟩ := h1
      have h4a : (K : Int) ≤ 4 := by omega
      have h4b : ¬ (4 : Int) < (K : Int) := by omega
      go_wp2
      go_ret
      exact ⟨rfl, HBe.out⟩

theorem superTorn_walk (s t : Sup) (cut : Int) (w : World) (ht : Steps w) (hs : s.Fits) (hg : t.Fits) (f : (Lit.int .i64 cut).wf = true) : Calls Tryd.prog 7 #[sval s, sval t, .int .i64 cut] w fun e w' => e = .returned (.bool true) ∧ Below w.heap.size w w' := by
  by_cases h1 : okS s = true
  · by_cases h2 : okS t = true
    · by_cases h3 : s.gen < t.gen
      · by_cases h4 : t.gen ≤ 255
        · exact torn_main s t cut w ht hs hg h1 h2 h3 h4
        · exact torn_no4 s t cut w ht hs hg h1 h2 h3 (by omega)
      · exact torn_no3 s t cut w ht hs hg h1 h2 (by omega)
    · exact torn_no2 s t cut w ht hs hg h1 (by simpa using h2)
  · exact torn_no1 s t cut w ht hs hg (by simpa using h1)
end Go.Proofs.YtgbibhbmcbbbhaaDoor
