/- The law RecordCuts, walked, over the bundle of the program's contracts. (Written by wip/mk_laws6.py.) -/
import Derived.Test.YtndeknkfljnjoaaDoorRec6
import Derived.Deep.RegionLaw
namespace Go.Proofs.YtndeknkfljnjoaaDoor
open Go.RowKit
set_option linter.unusedVariables false


set_option maxHeartbeats 1000000 in
set_option maxRecDepth 20000 in
theorem cuts_no (R : Rec6) (e k : Int) (a : Option Addr) (n ca : Nat) (ps : List Nat) (b : Option Addr) (m cb : Nat) (zs : List Nat) (w : World) (hp : Octs w (.slice a n ca) ps) (hb : Octs w (.slice b m cb) zs) (ht : Steps w) (he : -9223372036854775808 ≤ e ∧ e ≤ 9223372036854775807) (hk : -9223372036854775808 ≤ k ∧ k ≤ 9223372036854775807) (hn : n ≤ 1500) (hm : m ≤ 300) (hno : okId e k = false ∨ n = 0) : Calls Tryd.prog 4 #[.agg #[.int .i64 e, .int .i64 k], .slice a n ca, .slice b m cb] w fun x w' => x = .returned (.bool true) ∧ Below w.heap.size w w' := by
  obtain ⟨i0, hi0, hz0, hz1, hz2⟩ := info_parts Tryd.infoU8'
  have HR : Hid Rec6 := R
  have HP : Hid (Octs w (.slice a n ca) ps) := hp
  have HA : Hid (Octs w (.slice b m cb) zs) := hb
  have HT : Hid (Steps w) := ht
  have HE : Hid ((-9223372036854775808 ≤ e ∧ e ≤ 9223372036854775807) ∧ (-9223372036854775808 ≤ k ∧ k ≤ 9223372036854775807)) := ⟨he, hk⟩
  have LP : Hid (ps.length = n) := hp.lenEq
  have LA : Hid (zs.length = m) := hb.lenEq
  have SP : Hid (∀ z ∈ ps, z < 256) := hp.small
  have SA : Hid (∀ z ∈ zs, z < 256) := hb.small
  have hn' : ¬ (1500 : Int) < n := by omega
  have hm' : ¬ (300 : Int) < m := by omega
  have I0 : Hid ((w.alloc (.cells #[.int .i64 e, .int .i64 k] 36)).heap[w.heap.size]? = some (.cells #[.int .i64 e, .int .i64 k] 36 (0, 0))) := heap_alloc_new _ _
  have HRG : Hid (∀ w, Calls Tryd.prog 12 #[.agg #[.bool false, .int .i64 e, .int .i64 k, .int .i64 0, .slice none 0 0]] w fun x w' => x = .returned (.bool (okId e k)) ∧ Below w.heap.size w w') := fun w => refRight6 ⟨false, e, k, 0, []⟩ (.slice none 0 0) w (octs_nil w)
  clear R hp hb ht he hk
  go_enter Tryd.func4, Tryd.ntmps4
  go_wp2_with fail
  refine (awake6 HR.out _).mono ?_
  rintro x w1 ⟨rfl, hb1⟩
  have I1 : Hid (w1.heap[w.heap.size]? = some (.cells #[.int .i64 e, .int .i64 k] 36 (0, 0))) := (hb1.block _ (by simp)).trans I0.out
  have HB1 : Hid (Below w.heap.size w w1) := ((Below.refl _ _).alloc (Nat.le_refl _) _).trans (hb1.mono (by simp))
  clear hb1 I0
  have c0 : w1.cell? ⟨w.heap.size, 0, none⟩ = some (.int .i64 e) := by rw [cell_of_row _ _ _ _ _ _ I1.out]; rfl
  have c1 : w1.cell? ⟨w.heap.size, 1, none⟩ = some (.int .i64 k) := by rw [cell_of_row _ _ _ _ _ _ I1.out]; rfl
  go_wp2_with fail
  refine (HR.out.cut_no e k _ ps w1 (by rcases hno with h | h; exact .inl h; exact .inr (.inl (by rw [LP.out]; exact h))) (HP.out.kept HB1.out) (by rw [LP.out]; omega) (HT.out.below HB1.out) HE.out.1 HE.out.2).mono ?_
  rintro x w2 ⟨u, rfl, hu, hb2⟩
  obtain ⟨au, cu, rfl⟩ := hu.shape
  rw [show ([] : List Nat).length = 0 from rfl]
  have I2 : Hid (w2.heap[w.heap.size]? = some (.cells #[.int .i64 e, .int .i64 k] 36 (0, 0))) := (hb2.block _ (lt_of_heap I1.out)).trans I1.out
  have HB2 : Hid (Below w.heap.size w w2) := HB1.out.trans (hb2.mono HB1.out.size)
  clear hb2 hu c0 c1
  have c0 : w2.cell? ⟨w.heap.size, 0, none⟩ = some (.int .i64 e) := by rw [cell_of_row _ _ _ _ _ _ I2.out]; rfl
  have c1 : w2.cell? ⟨w.heap.size, 1, none⟩ = some (.int .i64 k) := by rw [cell_of_row _ _ _ _ _ _ I2.out]; rfl
  go_wp2_with fail
  refine (HRG.out w2).mono ?_
  rintro x w3 ⟨rfl, hb3⟩
  skip
  have HD3 : Hid (Below w2.heap.size w2 w3) := hb3
  have HB3 : Hid (Below w.heap.size w w3) := HB2.out.trans (hb3.mono HB2.out.size)
  have I3 : Hid (w3.heap[w.heap.size]? = some (.cells #[.int .i64 e, .int .i64 k] 36 (0, 0))) := (hb3.block _ (lt_of_heap I2.out)).trans I2.out
  clear hb3 c0 c1
  by_cases hok : okId e k = false
  · rw [hok]
    go_wp2
    go_ret
    exact ⟨rfl, HB3.out⟩
  · have hok' : okId e k = true := by simpa using hok
    have hn0 : n = 0 := by rcases hno with h | h; exact absurd h hok; exact h
    subst hn0
    rw [hok']
    go_wp2
    go_ret
    exact ⟨rfl, HB3.out⟩

set_option maxHeartbeats 2000000 in
set_option maxRecDepth 20000 in
theorem cuts_ok (R : Rec6) (e k : Int) (a : Option Addr) (n ca : Nat) (ps : List Nat) (b : Option Addr) (m cb : Nat) (zs : List Nat) (w : World) (hp : Octs w (.slice a n ca) ps) (hb : Octs w (.slice b m cb) zs) (ht : Steps w) (he : -9223372036854775808 ≤ e ∧ e ≤ 9223372036854775807) (hk : -9223372036854775808 ≤ k ∧ k ≤ 9223372036854775807) (hn : n ≤ 1500) (hm : m ≤ 300) (hok : okId e k = true) (hn1 : 1 ≤ n) : Calls Tryd.prog 4 #[.agg #[.int .i64 e, .int .i64 k], .slice a n ca, .slice b m cb] w fun x w' => x = .returned (.bool true) ∧ Below w.heap.size w w' := by
  have hnn := hp.lenEq
  have HJ1 : Hid (joinS (cutS e k ps ++ zs) e k = some (ps, partsN ps.length + 1)) := join_cut hok ps (by omega) (by omega) zs
  have HJ2 : Hid (joinS (cutS e k ps) e (k + 1) = none) := by
    have := join_other hok ps (by omega) (by omega) []
    rwa [List.append_nil] at this
  have HBL : Hid ((cutS e k ps).length = 128 * (partsN ps.length + 1)) := cutS_length e k ps
  have HBS : Hid (∀ z ∈ cutS e k ps, z < 256) := cutS_small hp.small e k
  have hq : partsN ps.length ≤ 14 := by unfold partsN; omega
  have HSN : Hid (sectorsN (n : Nat) = ((partsN ps.length + 1 : Nat) : Int)) := by unfold Hid; rw [hnn]; exact sectorsN_nat n hn1 (by omega)
  have hk1 : IntKind.i64.wrap (k + 1) = k + 1 := by have := (okId_right.1 hok).2; rw [IntKind.wrap_i64]; omega
  have hk2 : -9223372036854775808 ≤ k + 1 ∧ k + 1 ≤ 9223372036854775807 := by have := (okId_right.1 hok).2; omega
  have HCU : Hid (∀ v W, Octs W v ps → Steps W → Calls Tryd.prog 14 #[.int .i64 e, .int .i64 k, v] W fun x w' => ∃ u, x = .returned (.tuple #[u, .int .i64 0]) ∧ Octs w' u (cutS e k ps) ∧ Below W.heap.size W w') := fun v W h hs => R.cut_ok e k v ps W hok h (by omega) (by omega) hs
  have HCR : Hid (∀ W, Octs W (.slice a n ca) ps → Calls Tryd.prog 15 #[.int .i64 e, .int .i64 k, .slice a n ca] W fun x w' => x = .returned (.string (strN (cutS e k ps))) ∧ Below W.heap.size W w') := fun W h => refCut6 e k a n ca ps W h hok (by omega)
  have HSE : Hid (∀ W, Calls Tryd.prog 16 #[.int .i64 (n : Nat)] W fun x w' => x = .returned (.int .i64 ((partsN ps.length + 1 : Nat) : Int)) ∧ Below W.heap.size W w') := fun W => by
    have := R.sectors (n : Nat) W (by omega) (by omega)
    rwa [HSN.out] at this
  have HJA : Hid (∀ v W, Octs W v (cutS e k ps ++ zs) → Steps W → Calls Tryd.prog 17 #[v, .int .i64 e, .int .i64 k] W fun x w' => ∃ u, x = .returned (.tuple #[u, .int .i64 ((partsN ps.length + 1 : Nat) : Int)]) ∧ Octs w' u ps ∧ Below W.heap.size W w') := fun v W h hs => by
    have := R.join v (cutS e k ps ++ zs) e k W h (by rw [List.length_append, HBL.out, hb.lenEq]; omega) hs he hk
    rwa [HJ1.out] at this
  have HJB : Hid (∀ v W, Octs W v (cutS e k ps) → Steps W → Calls Tryd.prog 17 #[v, .int .i64 e, .int .i64 (k + 1)] W fun x w' => ∃ u, x = .returned (.tuple #[u, .int .i64 ((0 : Nat) : Int)]) ∧ Octs w' u [] ∧ Below W.heap.size W w') := fun v W h hs => by
    have := R.join v (cutS e k ps) e (k + 1) W h (by rw [HBL.out]; omega) hs he hk2
    rwa [HJ2.out] at this
  clear HJ1 HJ2 HSN hk2
  generalize partsN ps.length = q at *
  generalize cutS e k ps = Bx at *
  have h128a : IntKind.i64.wrap (128 * (((q : Nat) : Int) + 1)) = 128 * (((q : Nat) : Int) + 1) := by rw [IntKind.wrap_i64]; omega
  have h128b : wrap64 (128 * (((q : Nat) : Int) + 1)) = 128 * (((q : Nat) : Int) + 1) := by unfold wrap64; omega
  clear hnn
  obtain ⟨i0, hi0, hz0, hz1, hz2⟩ := info_parts Tryd.infoU8'
  have HR : Hid Rec6 := R
  have HP : Hid (Octs w (.slice a n ca) ps) := hp
  have HA : Hid (Octs w (.slice b m cb) zs) := hb
  have HT : Hid (Steps w) := ht
  have HE : Hid ((-9223372036854775808 ≤ e ∧ e ≤ 9223372036854775807) ∧ (-9223372036854775808 ≤ k ∧ k ≤ 9223372036854775807)) := ⟨he, hk⟩
  have LP : Hid (ps.length = n) := hp.lenEq
  have LA : Hid (zs.length = m) := hb.lenEq
  have SP : Hid (∀ z ∈ ps, z < 256) := hp.small
  have SA : Hid (∀ z ∈ zs, z < 256) := hb.small
  have hn' : ¬ (1500 : Int) < n := by omega
  have hm' : ¬ (300 : Int) < m := by omega
  have I0 : Hid ((w.alloc (.cells #[.int .i64 e, .int .i64 k] 36)).heap[w.heap.size]? = some (.cells #[.int .i64 e, .int .i64 k] 36 (0, 0))) := heap_alloc_new _ _
  have HRG : Hid (∀ w, Calls Tryd.prog 12 #[.agg #[.bool false, .int .i64 e, .int .i64 k, .int .i64 0, .slice none 0 0]] w fun x w' => x = .returned (.bool (okId e k)) ∧ Below w.heap.size w w') := fun w => refRight6 ⟨false, e, k, 0, []⟩ (.slice none 0 0) w (octs_nil w)
  clear R hp hb ht he hk
  go_enter Tryd.func4, Tryd.ntmps4
  go_wp2_with fail
  refine (awake6 HR.out _).mono ?_
  rintro x w1 ⟨rfl, hb1⟩
  have I1 : Hid (w1.heap[w.heap.size]? = some (.cells #[.int .i64 e, .int .i64 k] 36 (0, 0))) := (hb1.block _ (by simp)).trans I0.out
  have HB1 : Hid (Below w.heap.size w w1) := ((Below.refl _ _).alloc (Nat.le_refl _) _).trans (hb1.mono (by simp))
  clear hb1 I0
  have c0 : w1.cell? ⟨w.heap.size, 0, none⟩ = some (.int .i64 e) := by rw [cell_of_row _ _ _ _ _ _ I1.out]; rfl
  have c1 : w1.cell? ⟨w.heap.size, 1, none⟩ = some (.int .i64 k) := by rw [cell_of_row _ _ _ _ _ _ I1.out]; rfl
  go_wp2_with fail
  refine (HCU.out _ w1 (HP.out.kept HB1.out) (HT.out.below HB1.out)).mono ?_
  rintro x w2 ⟨u, rfl, hu, hb2⟩
  obtain ⟨au, cu, rfl⟩ := hu.shape
  rw [HBL.out] at hu ⊢
  have HU2 : Hid (Octs w2 (.slice au (128 * (q + 1)) cu) Bx) := hu
  have I2 : Hid (w2.heap[w.heap.size]? = some (.cells #[.int .i64 e, .int .i64 k] 36 (0, 0))) := (hb2.block _ (lt_of_heap I1.out)).trans I1.out
  have HB2 : Hid (Below w.heap.size w w2) := HB1.out.trans (hb2.mono HB1.out.size)
  clear hb2 hu c0 c1
  have c0 : w2.cell? ⟨w.heap.size, 0, none⟩ = some (.int .i64 e) := by rw [cell_of_row _ _ _ _ _ _ I2.out]; rfl
  have c1 : w2.cell? ⟨w.heap.size, 1, none⟩ = some (.int .i64 k) := by rw [cell_of_row _ _ _ _ _ _ I2.out]; rfl
  go_wp2_with fail
  refine (HRG.out w2).mono ?_
  rintro x w3 ⟨rfl, hb3⟩
  rw [hok]
  have HD3 : Hid (Below w2.heap.size w2 w3) := hb3
  have HB3 : Hid (Below w.heap.size w w3) := HB2.out.trans (hb3.mono HB2.out.size)
  have I3 : Hid (w3.heap[w.heap.size]? = some (.cells #[.int .i64 e, .int .i64 k] 36 (0, 0))) := (hb3.block _ (lt_of_heap I2.out)).trans I2.out
  clear hb3 c0 c1
  have HU3 : Hid (Octs w3 (.slice au (128 * (q + 1)) cu) Bx) := HU2.out.kept HD3.out
  have hn0 : ¬ (n : Int) = 0 := by omega
  have HW3 : Hid (∀ w', Below w3.heap.size w3 w' → w'.cell? ⟨w.heap.size, 0, none⟩ = some (.int .i64 e) ∧ w'.cell? ⟨w.heap.size, 1, none⟩ = some (.int .i64 k) ∧ (convert 22 9 (.slice au (128 * (q + 1)) cu)).run Tryd.prog w' = .ok (.string (strN (Bx))) w') := fun w' h => by
    have g := (h.block _ (lt_of_heap I3.out)).trans I3.out
    exact ⟨by rw [cell_of_row _ _ _ _ _ _ g]; rfl, by rw [cell_of_row _ _ _ _ _ _ g]; rfl, conv_octs (P := Tryd.prog) (HU3.out.kept h) _ _ _ Tryd.underlying22 Tryd.underlying5 Tryd.underlying9⟩
  go_wp2_with fail
  go_region_held (fun w' => w'.cell? ⟨w.heap.size, 0, none⟩ = some (.int .i64 e) ∧ w'.cell? ⟨w.heap.size, 1, none⟩ = some (.int .i64 k) ∧ (convert 22 9 (.slice au (128 * (q + 1)) cu)).run Tryd.prog w' = .ok (.string (strN (Bx))) w') (first | exact HW3.out _ (Below.refl _ _).drew | exact HW3.out _ HBa.out | exact HW3.out _ HBd.out) (first
    | (go_at_call 15; refine (HCR.out w3.drew ((HP.out.kept HB3.out).drew)).mono ?_; rintro x wa ⟨rfl, hba⟩; have HBa : Hid (Below w3.heap.size w3 wa) := below_undrew hba; clear hba)
    | (go_at_call 16; refine (HSE.out wa).mono ?_; rintro x wd ⟨rfl, hbd⟩; have HBd : Hid (Below w3.heap.size w3 wd) := HBa.out.trans (hbd.mono HBa.out.size); clear hbd))
  have HBw : Hid (Below w.heap.size w wd) := HB3.out.trans (HBd.out.mono HB3.out.size)
  have Id : Hid (wd.heap[w.heap.size]? = some (.cells #[.int .i64 e, .int .i64 k] 36 (0, 0))) := (HBd.out.block _ (lt_of_heap I3.out)).trans I3.out
  have HUd : Hid (∀ w', Below wd.heap.size wd w' → Octs w' (.slice au (128 * (q + 1)) cu) Bx) := fun w' h => (HU3.out.kept HBd.out).kept h
  have HAd : Hid (∀ w', Below wd.heap.size wd w' → Octs w' (.slice b m cb) zs) := fun w' h => (HA.out.kept HBw.out).kept h
  have HPd : Hid (∀ w', Below wd.heap.size wd w' → Octs w' (.slice a n ca) ps) := fun w' h => (HP.out.kept HBw.out).kept h
  have HTd : Hid (∀ w', Below wd.heap.size wd w' → Steps w') := fun w' h => (HT.out.below HBw.out).below h
  have HId : Hid (∀ w', Below wd.heap.size wd w' → w'.cell? ⟨w.heap.size, 0, none⟩ = some (.int .i64 e) ∧ w'.cell? ⟨w.heap.size, 1, none⟩ = some (.int .i64 k)) := fun w' h => by
    have g := (h.block _ (lt_of_heap Id.out)).trans Id.out
    exact ⟨by rw [cell_of_row _ _ _ _ _ _ g]; rfl, by rw [cell_of_row _ _ _ _ _ _ g]; rfl⟩
  clear HW3 HU2 HU3 HBd HBa I3 I2 I1 HD3 HB1 HB2 HB3
  go_wp2_with fail
  go_region_held3 (fun w' => w'.cell? ⟨w.heap.size, 0, none⟩ = some (.int .i64 e) ∧ w'.cell? ⟨w.heap.size, 1, none⟩ = some (.int .i64 k)) (first | exact HId.out _ (Below.refl _ _).drew | exact HId.out _ ((Below.refl _ _).drew.alloc (Nat.le_refl _) _) | exact HId.out _ HB6.out | exact HId.out _ HB7.out | exact HId.out _ HB8.out) (first
    | (refine step_append_octs (by rfl) _ _ 22 (by rfl) wd.heap.size 5 i0 Tryd.underlying22 hi0 hz0 hz1 hz2 _ 0 [] (by rfl) (World.ownsRow_made _ #[] 0 (Nat.le_refl _) (by decide) rfl) _ Bx (by rfl) (HUd.out _ ((Below.refl _ _).drew.alloc (Nat.le_refl _) _)) (by rw [HBL.out]; omega) (by simp) ?_
       intro v6 w6 hown6 hg6
       have HB6 : Hid (Below wd.heap.size wd w6) := ((Below.refl _ _).drew.alloc (Nat.le_refl _) _).trans (below_grown (World.ownsRow_made _ #[] 0 (Nat.le_refl _) (by decide) rfl) hg6 (by simp))
       clear hg6)
    | (refine step_append_octs (by rfl) _ _ 22 (by rfl) wd.heap.size 5 i0 Tryd.underlying22 hi0 hz0 hz1 hz2 _ (0 + Bx.length) ([] ++ Bx) (by rfl) hown6 _ zs (by rfl) (HAd.out _ HB6.out) (by rw [HBL.out, LA.out]; omega) HB6.out.size ?_
       intro v7 w7 hown7 hg7
       have HB7 : Hid (Below wd.heap.size wd w7) := HB6.out.trans (below_grown hown6 hg7 HB6.out.size)
       have HO7 : Hid (Octs w7 v7 (Bx ++ zs)) := Octs.owned hown7 (app_small HBS.out SA.out)
       clear hg7 hown6 hown7)
    | (go_at_call 17; refine (HJA.out _ w7 HO7.out (HTd.out _ HB7.out)).mono ?_; rintro x w8 ⟨u8, rfl, hu8, hb8⟩; obtain ⟨a8, c8, rfl⟩ := hu8.shape; have HU8 : Hid (Octs w8 (.slice a8 ps.length c8) ps) := hu8; have HB8 : Hid (Below wd.heap.size wd w8) := HB7.out.trans (hb8.mono HB7.out.size); clear hb8 hu8))
  all_goals
    rw [LP.out] at HU8 ⊢
    obtain ⟨c0, c1⟩ := HId.out w8 HB8.out
    go_wp2_with fail
    refine (HJB.out _ w8 (HUd.out _ HB8.out) (HTd.out _ HB8.out)).mono ?_
    rintro x w9 ⟨u9, rfl, hu9, hb9⟩
    obtain ⟨a9, c9, rfl⟩ := hu9.shape
    rw [show ([] : List Nat).length = 0 from rfl]
    have HB9 : Hid (Below wd.heap.size wd w9) := HB8.out.trans (hb9.mono HB8.out.size)
    have cv1 : (convert 22 9 (.slice a8 n c8)).run Tryd.prog w9 = .ok (.string (strN (ps))) w9 := conv_octs (P := Tryd.prog) (HU8.out.kept hb9) _ _ _ Tryd.underlying22 Tryd.underlying5 Tryd.underlying9
    have cv2 : (convert 22 9 (.slice a n ca)).run Tryd.prog w9 = .ok (.string (strN (ps))) w9 := conv_octs (P := Tryd.prog) (HPd.out _ HB9.out) _ _ _ Tryd.underlying22 Tryd.underlying5 Tryd.underlying9
    clear hu9 hb9 c0 c1
    go_wp2
    go_ret
    exact ⟨rfl, HBw.out.trans (HB9.out.mono HBw.out.size)⟩

set_option maxHeartbeats 400000 in
theorem recordCuts_of (R : Rec6) (z0 : List Int) (a1 : Option Addr) (len1 cap1 : Nat) (z1 : List Int) (a2 : Option Addr) (len2 cap2 : Nat) (z2 : List Int) (w : World) (ht : Steps w) (g0 : z0.length = 2) (f0 : ∀ z ∈ z0, (Lit.int .i64 z).wf = true) (f1 : IsRow .u8 w a1 len1 cap1 z1) (f2 : IsRow .u8 w a2 len2 cap2 z2) :
    Calls Tryd.prog 4 #[.agg (z0.map (Value.int .i64)).toArray, .slice a1 len1 cap1, .slice a2 len2 cap2] w fun x w' => x = .returned (.bool true) ∧ Below w.heap.size w w' := by
  have h1 := Octs.ofRow f1
  have h2 := Octs.ofRow f2
  have l1 := h1.lenLe
  have l2 := h2.lenLe
  obtain ⟨e, k, rfl⟩ := list2 g0
  have he : -9223372036854775808 ≤ e ∧ e ≤ 9223372036854775807 := by simpa [Lit.wf, IntKind.min, IntKind.max, IntKind.signed, IntKind.bits] using f0 e (by simp)
  have hk : -9223372036854775808 ≤ k ∧ k ≤ 9223372036854775807 := by simpa [Lit.wf, IntKind.min, IntKind.max, IntKind.signed, IntKind.bits] using f0 k (by simp)
  have HR : Hid Rec6 := R
  obtain ⟨ps, hps⟩ : ∃ zs, Octs w (.slice a1 len1 cap1) zs := ⟨_, h1⟩
  obtain ⟨zs, hzs⟩ : ∃ zs, Octs w (.slice a2 len2 cap2) zs := ⟨_, h2⟩
  clear f1 f2 f0 g0 h1 h2
  show Calls Tryd.prog 4 #[.agg #[.int .i64 e, .int .i64 k], .slice a1 len1 cap1, .slice a2 len2 cap2] w _
  by_cases hn : len1 ≤ 1500
  · by_cases hm : len2 ≤ 300
    · by_cases hok : okId e k = true
      · by_cases hn1 : 1 ≤ len1
        · exact cuts_ok R e k a1 len1 cap1 ps a2 len2 cap2 zs w hps hzs ht he hk hn hm hok hn1
        · exact cuts_no R e k a1 len1 cap1 ps a2 len2 cap2 zs w hps hzs ht he hk hn hm (.inr (by omega))
      · exact cuts_no R e k a1 len1 cap1 ps a2 len2 cap2 zs w hps hzs ht he hk hn hm (.inl (by simpa using hok))
    · clear hps hzs ht R
      have hn' : ¬ (1500 : Int) < len1 := by omega
      have hm' : (300 : Int) < len2 := by omega
      go_enter Tryd.func4, Tryd.ntmps4
      go_wp2_with fail
      refine (awake6 HR.out _).mono ?_
      rintro x w1 ⟨rfl, hb1⟩
      have HB1 : Hid (Below w.heap.size w w1) := ((Below.refl _ _).alloc (Nat.le_refl _) _).trans (hb1.mono (by simp))
      clear hb1
      go_wp2_with fail
      refine (awake6 HR.out _).mono ?_
      rintro x w2 ⟨rfl, hb2⟩
      go_wp2
      go_ret
      exact ⟨rfl, HB1.out.trans (hb2.mono HB1.out.size)⟩

  · clear hps hzs ht R
    have hn' : (1500 : Int) < len1 := by omega
    go_enter Tryd.func4, Tryd.ntmps4
    go_wp2_with fail
    refine (awake6 HR.out _).mono ?_
    rintro x w1 ⟨rfl, hb1⟩
    have HB1 : Hid (Below w.heap.size w w1) := ((Below.refl _ _).alloc (Nat.le_refl _) _).trans (hb1.mono (by simp))
    clear hb1
    go_wp2_with fail
    refine (awake6 HR.out _).mono ?_
    rintro x w2 ⟨rfl, hb2⟩
    go_wp2
    go_ret
    exact ⟨rfl, HB1.out.trans (hb2.mono HB1.out.size)⟩
end Go.Proofs.YtndeknkfljnjoaaDoor
