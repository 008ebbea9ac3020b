/- The law's 'same': is an overlay the document's? (Written by wip/mk_same12.py.) -/
import Derived.Test.YtjhkcdnfnmglhaaGreatDoorTwo12
import Derived.Test.YtjhkcdnfnmglhaaGreatDoorJ10
namespace Go.Proofs.YtjhkcdnfnmglhaaGreatDoor
open Go.RowKit Go.Maps
set_option linter.unusedVariables false
set_option maxRecDepth 20000

theorem sameK_self (l : List Ky) : sameK l l = true := by simp [sameK]
set_option maxHeartbeats 8000000 in
theorem same12_any (w wr : World) (q : Nat) (s : OvB) (k N j : Nat) (O : Ov) (p pb b : Nat) (I : OvI w q s k N j O wr) (F : RefI w s p pb b O wr) (hj : N + j ≤ 80) :
    Calls Tryz.prog 18 #[.pointer (some ⟨q, 0, none⟩), .pointer (some ⟨p, 0, none⟩)] wr fun x w' => x = .returned (.bool true) ∧ Below wr.heap.size wr w' := by
  obtain ⟨R, vB, vW, vF, hR, -, -⟩ := F
  have hln := lens_of (Nat.le_trans I.tot (by omega : N + j ≤ 90))
  have HMB : Hid (∀ m ∈ O.base, MdI m) := I.ok.mdB (by omega)
  have HMW : Hid (∀ m ∈ O.was, MdI m) := I.ok.mdW (by omega)
  have HMF : Hid (∀ m ∈ O.fresh, MdI m) := I.ok.mdF (by omega)
  obtain ⟨htl, hnn⟩ : O.base.length ≤ 99 ∧ O.fresh.length ≤ 99 := by have := I.tot; unfold totalO at this; omega
  have HLN : Hid (O.base.length ≤ 99 ∧ O.was.length ≤ 99 ∧ O.fresh.length ≤ 99) := ⟨htl, hln.2.1, hnn⟩
  have HOK : Hid (OvOk O (281474976710655 + (j : Int))) := I.ok
  have HI : Hid (OvI w q s k N j O wr) := I
  obtain ⟨aB, lB, cB, eB⟩ : ∃ a l c, vB = .slice a l c := by obtain ⟨a, c, e⟩ := hR.base.shape; exact ⟨a, _, c, e⟩
  obtain ⟨aW, lW, cW, eW⟩ : ∃ a l c, vW = .slice a l c := by obtain ⟨a, c, e⟩ := hR.was.shape; exact ⟨a, _, c, e⟩
  obtain ⟨aF, lF, cF, eF⟩ : ∃ a l c, vF = .slice a l c := by obtain ⟨a, c, e⟩ := hR.fresh.shape; exact ⟨a, _, c, e⟩
  subst eB eW eF
  have HR0 : Hid (R12 wr R p pb b (.slice aB lB cB) (.slice aW lW cW) (.slice aF lF cF) O) := hR
  have HP := I.parts (by omega)
  have HJ : Hid (N + j ≤ 80) := hj
  clear hR htl hnn hln I hj
  go_enter Tryz.func18, Tryz.ntmps18
  go_wp2_with fail
  refine HP.mono ?_
  rintro x v1 ⟨y1, y2, y3, rfl, hn1, hn2, hn3, hb1⟩
  have HI1 : Hid (OvI w q s k N j O v1) := HI.out.below hb1
  have HB1 : Hid (Below wr.heap.size wr v1) := hb1
  have HD := HI1.out.diff (by have := HJ.out; omega)
  have HN1 : Hid (Nums v1 y1 (slotsL O.base)) := hn1
  have HN2 : Hid (Nums v1 y2 (slotsL O.fresh)) := hn2
  have HN3 : Hid (Nums v1 y3 (slotsL O.was)) := hn3
  clear hn1 hn2 hn3 hb1 HP HI
  go_wp2_with fail
  refine HD.mono ?_
  rintro x V ⟨y4, y5, rfl, hu, hv, hb, -, -⟩
  have HBV : Hid (Below wr.heap.size wr V) := HB1.out.trans (hb.mono HB1.out.size)
  have HRV : Hid (R12 V R p pb b (.slice aB lB cB) (.slice aW lW cW) (.slice aF lF cF) O) := HR0.out.below HBV.out
  have HIV : Hid (OvI w q s k N j O V) := HI1.out.below hb
  have HM1 : Hid (Nums V y1 (slotsL O.base)) := HN1.out.kept hb
  have HM2 : Hid (Nums V y2 (slotsL O.fresh)) := HN2.out.kept hb
  have HM3 : Hid (Nums V y3 (slotsL O.was)) := HN3.out.kept hb
  have HM4 : Hid (Els encM 5 V y4 O.fresh) := hu
  have HM5 : Hid (Keys V y5 (goneL O)) := hv
  clear hu hv hb HD HN1 HN2 HN3 HB1 HI1 HR0
  have HSB : Hid (∀ W, Below V.heap.size V W → Calls Tryz.prog 43 #[.slice aB lB cB] W fun e w' => ∃ u, e = .returned u ∧ Nums w' u (slotsL O.base) ∧ Below V.heap.size V w') := fun W hb => (refSlots12 W _ _ (HRV.out.below hb).base HLN.out.1 HMB.out).mono fun e w' ⟨u, h1, h2, h3, _⟩ => ⟨u, h1, h2, hb.trans (h3.mono hb.size)⟩
  have HSF : Hid (∀ W, Below V.heap.size V W → Calls Tryz.prog 43 #[.slice aF lF cF] W fun e w' => ∃ u, e = .returned u ∧ Nums w' u (slotsL O.fresh) ∧ Below V.heap.size V w') := fun W hb => (refSlots12 W _ _ (HRV.out.below hb).fresh HLN.out.2.2 HMF.out).mono fun e w' ⟨u, h1, h2, h3, _⟩ => ⟨u, h1, h2, hb.trans (h3.mono hb.size)⟩
  have HSW : Hid (∀ W, Below V.heap.size V W → Calls Tryz.prog 43 #[.slice aW lW cW] W fun e w' => ∃ u, e = .returned u ∧ Nums w' u (slotsL O.was) ∧ Below V.heap.size V w') := fun W hb => (refSlots12 W _ _ (HRV.out.below hb).was HLN.out.2.1 HMW.out).mono fun e w' ⟨u, h1, h2, h3, _⟩ => ⟨u, h1, h2, hb.trans (h3.mono hb.size)⟩
  have ints : ∀ (y : Value) (zs : List Int), Nums V y zs → ∀ W u, Below V.heap.size V W → Nums W u zs → Calls Tryz.prog 44 #[y, u] W fun e w' => e = .returned (.bool true) ∧ Below V.heap.size V w' := fun y zs hy W u hb hu => (ints_any W y u zs zs (hy.kept hb) hu).mono fun e w' ⟨h1, m, h2⟩ => ⟨by rw [h1]; simp, by rw [h2]; exact hb.trans ((drewN_below W m).mono hb.size)⟩
  have HIB : Hid (∀ W u, Below V.heap.size V W → Nums W u (slotsL O.base) → Calls Tryz.prog 44 #[y1, u] W fun e w' => e = .returned (.bool true) ∧ Below V.heap.size V w') := ints _ _ HM1.out
  have HIF : Hid (∀ W u, Below V.heap.size V W → Nums W u (slotsL O.fresh) → Calls Tryz.prog 44 #[y2, u] W fun e w' => e = .returned (.bool true) ∧ Below V.heap.size V w') := ints _ _ HM2.out
  have HIW : Hid (∀ W u, Below V.heap.size V W → Nums W u (slotsL O.was) → Calls Tryz.prog 44 #[y3, u] W fun e w' => e = .returned (.bool true) ∧ Below V.heap.size V w') := ints _ _ HM3.out
  have HMS : Hid (∀ W, Below V.heap.size V W → Calls Tryz.prog 20 #[y4, .slice aF lF cF] W fun e w' => e = .returned (.bool true) ∧ Below V.heap.size V w') := fun W hb => (same11_any W _ _ O.fresh (HM4.out.kept hb) (HRV.out.below hb).fresh).mono fun e w' ⟨h1, m, h2⟩ => ⟨h1, by rw [h2]; exact hb.trans ((drewN_below W m).mono hb.size)⟩
  have HGO : Hid (∀ W, Below V.heap.size V W → Calls Tryz.prog 45 #[.pointer (some ⟨p, 0, none⟩)] W fun e w' => ∃ u, e = .returned u ∧ Keys w' u (goneL O) ∧ Below V.heap.size V w') := fun W hb => (refGone12_any W R p pb b _ _ _ O (HRV.out.below hb) (by have := HLN.out.2.1; omega) (fun m hm => ⟨(HMW.out m hm).1, (HMW.out m hm).2.1⟩)).mono fun e w' ⟨u, h1, h2, h3⟩ => ⟨u, h1, h2, hb.trans (h3.mono hb.size)⟩
  have HKS : Hid (∀ W u, Below V.heap.size V W → Keys W u (goneL O) → Calls Tryz.prog 23 #[y5, u] W fun e w' => e = .returned (.bool true) ∧ Below V.heap.size V w') := fun W u hb hu => (keySame_any W y5 u _ _ (HM5.out.kept hb) hu).mono fun e w' ⟨h1, m, h2⟩ => ⟨by rw [h1, sameK_self], by rw [h2]; exact hb.trans ((drewN_below W m).mono hb.size)⟩
  obtain ⟨FR, hFR⟩ : ∃ FR : Nat, FR = O.n - cnt O.B 0 O.n := ⟨_, rfl⟩
  have HFP : Hid (∀ W, Below V.heap.size V W → Calls Tryz.prog 46 #[.pointer (some ⟨q, 0, none⟩)] W fun e w' => e = .returned (.int .i64 (FR : Nat)) ∧ Below V.heap.size V w') := fun W hb => (freeO12_any W q s O (HIV.out.below hb).at_).mono fun e w' ⟨h1, h2⟩ => ⟨by rw [h1, hFR], hb.trans (h2.mono hb.size)⟩
  have HFR : Hid (∀ W, Below V.heap.size V W → Calls Tryz.prog 47 #[.pointer (some ⟨pb, 0, none⟩)] W fun e w' => e = .returned (.int .i64 (FR : Nat)) ∧ Below V.heap.size V w') := fun W hb => (refFree_any W pb b O.n O.B (HRV.out.below hb).board HOK.out.n2).mono fun e w' ⟨h1, h2⟩ => ⟨by rw [h1, hFR], by rw [h2]; exact hb⟩
  have HC : Hid (∀ w', Below V.heap.size V w' → (w'.cell? ⟨p, 0, none⟩ = some (.pointer (some ⟨pb, 0, none⟩)) ∧ w'.cell? ⟨p, 1, none⟩ = some (.slice aB lB cB)) ∧ w'.cell? ⟨p, 2, none⟩ = some (.slice aW lW cW) ∧ w'.cell? ⟨p, 3, none⟩ = some (.slice aF lF cF)) := fun w' hb => by obtain ⟨c0, c1, c2, c3⟩ := (HRV.out.below hb).cells; exact ⟨⟨c0, c1⟩, c2, c3⟩
  generalize slotsL O.base = LB at *
  generalize slotsL O.fresh = LF at *
  generalize slotsL O.was = LW at *
  generalize goneL O = LG at *
  clear ints hFR HRV HIV HM1 HM2 HM3 HM4 HM5 HLN HMB HMW HMF HOK HJ
  go_wp2_with fail
  go_region_held3 (fun w' => (w'.cell? ⟨p, 0, none⟩ = some (.pointer (some ⟨pb, 0, none⟩)) ∧ w'.cell? ⟨p, 1, none⟩ = some (.slice aB lB cB)) ∧ w'.cell? ⟨p, 2, none⟩ = some (.slice aW lW cW) ∧ w'.cell? ⟨p, 3, none⟩ = some (.slice aF lF cF)) (with_reducible first | exact HC.out _ HB11.out | exact HC.out _ HB10.out | exact HC.out _ HB9.out | exact HC.out _ HB8.out | exact HC.out _ HB7.out | exact HC.out _ HB6.out | exact HC.out _ HB5.out | exact HC.out _ HB4.out | exact HC.out _ HB3.out | exact HC.out _ HB2.out | exact HC.out _ HB1.out | exact HC.out _ (Below.refl _ _).drew) (first
      | (go_at_call 47; (with_reducible refine (HFR.out _ HB10.out).mono ?_); rintro e w11 ⟨rfl, hb11⟩; have HB11 : Hid (Below V.heap.size V w11) := hb11; clear hb11)
      | (go_at_call 46; (with_reducible refine (HFP.out _ HB9.out).mono ?_); rintro e w10 ⟨rfl, hb10⟩; have HB10 : Hid (Below V.heap.size V w10) := hb10; clear hb10)
      | (go_at_call 23; (with_reducible refine (HKS.out _ _ HB8.out HU8.out).mono ?_); rintro e w9 ⟨rfl, hb9⟩; have HB9 : Hid (Below V.heap.size V w9) := hb9; clear hb9)
      | (go_at_call 45; (with_reducible refine (HGO.out _ HB7.out).mono ?_); rintro e w8 ⟨u8, rfl, hu8, hb8⟩; have HB8 : Hid (Below V.heap.size V w8) := hb8; have HU8 : Hid (Keys w8 u8 LG) := hu8; clear hb8 hu8)
      | (go_at_call 20; (with_reducible refine (HMS.out _ HB6.out).mono ?_); rintro e w7 ⟨rfl, hb7⟩; have HB7 : Hid (Below V.heap.size V w7) := hb7; clear hb7)
      | (go_at_call 44; (with_reducible refine (HIW.out _ _ HB5.out HU5.out).mono ?_); rintro e w6 ⟨rfl, hb6⟩; have HB6 : Hid (Below V.heap.size V w6) := hb6; clear hb6)
      | (go_at_call 43; (with_reducible refine (HSW.out _ HB4.out).mono ?_); rintro e w5 ⟨u5, rfl, hu5, hb5⟩; have HB5 : Hid (Below V.heap.size V w5) := hb5; have HU5 : Hid (Nums w5 u5 LW) := hu5; clear hb5 hu5)
      | (go_at_call 44; (with_reducible refine (HIF.out _ _ HB3.out HU3.out).mono ?_); rintro e w4 ⟨rfl, hb4⟩; have HB4 : Hid (Below V.heap.size V w4) := hb4; clear hb4)
      | (go_at_call 43; (with_reducible refine (HSF.out _ HB2.out).mono ?_); rintro e w3 ⟨u3, rfl, hu3, hb3⟩; have HB3 : Hid (Below V.heap.size V w3) := hb3; have HU3 : Hid (Nums w3 u3 LF) := hu3; clear hb3 hu3)
      | (go_at_call 44; (with_reducible refine (HIB.out _ _ HB1.out HU1.out).mono ?_); rintro e w2 ⟨rfl, hb2⟩; have HB2 : Hid (Below V.heap.size V w2) := hb2; clear hb2)
      | (go_at_call 43; (with_reducible refine (HSB.out _ (Below.refl _ _).drew).mono ?_); rintro e w1 ⟨u1, rfl, hu1, hb1⟩; have HB1 : Hid (Below V.heap.size V w1) := hb1; have HU1 : Hid (Nums w1 u1 LB) := hu1; clear hb1 hu1))
  all_goals
    have HBE : Hid (Below wr.heap.size wr w11) := HBV.out.trans (HB11.out.mono HBV.out.size)
    clear HSB HSF HSW HIB HIF HIW HMS HGO HKS HFP HFR HC
    go_wp2
    go_ret
    exact ⟨rfl, HBE.out⟩
end Go.Proofs.YtjhkcdnfnmglhaaGreatDoor
