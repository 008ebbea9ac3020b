/- The law OverlayDiff. -/
import Derived.Test.YtjhkcdnfnmglhaaGreatDoorMathDiff12
import Derived.Test.YtjhkcdnfnmglhaaGreatDoorJ5
import Derived.BigQuiet
namespace Go.Proofs.YtjhkcdnfnmglhaaGreatDoor
open Go.RowKit
set_option linter.unusedVariables false
set_option maxRecDepth 20000

set_option maxHeartbeats 8000000 in
theorem overlayDiff_walk (n : Int) (a1 : Option Addr) (len1 cap1 : Nat) (cs : List Ac12) (a2 : Option Addr) (len2 cap2 : Nat) (ds : List Ac12) (w : World) (ht : Steps w) (f0 : (Lit.int .i64 n).wf = true) (f1 : Els encA 4 w (.slice a1 len1 cap1) cs ∧ ∀ y ∈ cs, AcI y) (f2 : Els encA 4 w (.slice a2 len2 cap2) ds ∧ ∀ y ∈ ds, AcI y) :
    Calls Tryz.prog 4 #[.int .i64 n, .slice a1 len1 cap1, .slice a2 len2 cap2] w fun e w' => e = .returned (.bool true) ∧ Below w.heap.size w w' := by
  have hn : I64 n := by simpa [Lit.wf, IntKind.min, IntKind.max, IntKind.signed, IntKind.bits, I64] using f0
  have HT : Hid (Steps w) := ht
  have hlen : len1 ≤ 9223372036854775807 ∧ len2 ≤ 9223372036854775807 := by
    have h1 := f1.1.lenEq
    have h2 := f1.1.1
    have h3 := f2.1.lenEq
    have h4 := f2.1.1
    unfold maxLen at h2 h4
    omega
  have HAw : Hid (∀ W, Below w.heap.size w W → Calls Tryz.prog 5 #[] W fun x w' => x = .returned (.bool true) ∧ Below W.heap.size W w') := fun W hb => awake12_any W (HT.out.below hb)
  by_cases hl : 20 < len1 ∨ 25 < len2
  · by_cases hl1 : 20 < len1
    · clear f1 f2 hn f0 hl
      go_enter Tryz.func4, Tryz.ntmps4
      go_wp2_with fail
      refine (HAw.out w (Below.refl _ _)).mono ?_
      rintro e w1 ⟨rfl, hB⟩
      have HB : Hid (Below w.heap.size w w1) := hB
      clear hB
      go_wp2_with fail
      refine (HAw.out w1 HB.out).mono ?_
      rintro e w2 ⟨rfl, hB2⟩
      have HB2 : Hid (Below w.heap.size w w2) := HB.out.trans (hB2.mono HB.out.size)
      clear hB2
      go_wp2
      go_ret
      exact ⟨rfl, HB2.out⟩
    · have hl2 : 25 < len2 := hl.resolve_left hl1
      clear f1 f2 hn f0 hl
      go_enter Tryz.func4, Tryz.ntmps4
      go_wp2_with fail
      refine (HAw.out w (Below.refl _ _)).mono ?_
      rintro e w1 ⟨rfl, hB⟩
      have HB : Hid (Below w.heap.size w w1) := hB
      clear hB
      go_wp2_with fail
      refine (HAw.out w1 HB.out).mono ?_
      rintro e w2 ⟨rfl, hB2⟩
      have HB2 : Hid (Below w.heap.size w w2) := HB.out.trans (hB2.mono HB.out.size)
      clear hB2
      go_wp2
      go_ret
      exact ⟨rfl, HB2.out⟩
  · have hl1 : len1 ≤ 20 := by omega
    have hl2 : len2 ≤ 25 := by omega
    obtain ⟨r, hr, hr5⟩ := mod_any n 12 (by decide) (by decide) hn
    obtain ⟨m, hm⟩ : ∃ m, m = 1 + r := ⟨_, rfl⟩
    have HM : Hid (wrap64 (1 + (wrap64 (n.tmod 12 + 12)).tmod 12) = (m : Int)) := by
      unfold Hid
      have e1 : (wrap64 (n.tmod 12 + 12)).tmod 12 = (r : Int) := hr
      rw [e1, show (1 : Int) + (r : Int) = ((m : Nat) : Int) by omega, wrap_nat m (by omega)]
    have hm1 : 1 ≤ m ∧ m ≤ 12 := by omega
    have HR : Hid (Els encA 4 w (.slice a1 len1 cap1) cs) := f1.1
    have HAI : Hid (∀ y ∈ cs, AcI y) := f1.2
    have HLN : Hid (cs.length = len1) := f1.1.lenEq
    have HR2 : Hid (Els encA 4 w (.slice a2 len2 cap2) ds) := f2.1
    have HAI2 : Hid (∀ y ∈ ds, AcI y) := f2.2
    have HLN2 : Hid (ds.length = len2) := f2.1.lenEq
    clear hr hr5 hm f0 f1 f2 ht hn hl
    go_enter Tryz.func4, Tryz.ntmps4
    go_wp2_with fail
    refine (HAw.out w (Below.refl _ _)).mono ?_
    rintro e w1 ⟨rfl, hB⟩
    have HN := newI w w1 m HT.out hB hm1.1 (by omega)
    clear hB HAw
    go_wp2_with fail
    rw [HM.out]
    refine HN.mono ?_
    rintro e w2 ⟨q, s, rfl, hI⟩
    have HI : Hid (OvI w q s m 0 0 (newO m []) w2) := hI
    clear hI HN HM
    go_wp2
    go_loopw [10] (fun i wr => ∃ (j : Nat) (O : Ov), i = .int .i64 (j : Nat) ∧ j ≤ len1 ∧ Hid (OvI w q s m 0 j O wr)) (fun i _ => len1 - (intOf i).toNat)
    case atStart => exact ⟨0, _, rfl, Nat.zero_le _, HI.out⟩
    case round =>
      obtain ⟨j, O, rfl, hj, hI⟩ := hrel
      by_cases hlt : j < len1
      · obtain ⟨gg, off, rfl, hgl, hcell⟩ := HR.out.ac (by omega)
        obtain ⟨kd, ah, ap, au, hjj⟩ := ac_at (xs := cs) (j := j) (by rw [HLN.out]; exact hlt)
        obtain ⟨x0, x1, x2, x3⟩ := hcell j _ hjj
        have HKI : Hid (KI (ah, ap)) := ⟨(HAI.out _ (List.mem_of_getElem? hjj)).2.1, (HAI.out _ (List.mem_of_getElem? hjj)).2.2.1⟩
        have y1 := (hI.out.bel.cell (p := ⟨gg, off + j * 4 + 1, none⟩) hgl).trans x1
        have y2 := (hI.out.bel.cell (p := ⟨gg, off + j * 4 + 2, none⟩) hgl).trans x2
        simp only at y1 y2
        clear x0 x1 x2 x3 hcell hjj
        have HJ : Hid (0 + j ≤ 480) := by unfold Hid; omega
        have HP := hI.out.put HT.out HJ.out ah ap HKI.out
        go_wp2_with fail
        refine HP.mono ?_
        rintro x w5 ⟨O5, a5, b5, c5, e5, rfl, -, hi5, -⟩
        have HI5 : Hid (OvI w q s m 0 (j + 1) O5 w5) := hi5
        clear hi5 HP y1 y2 hI
        go_wp2
        go_roundw
        case rel => exact ⟨j + 1, _, by go_num, by omega, HI5.out⟩
        case measure => simp [intOf]; omega
      · have HI20 : Hid (OvI w q s m 0 20 O wr) := hI.out.more (by omega)
        have HP := HI20.out.commit HT.out (by decide)
        clear hI HI
        go_wp2_with fail
        refine HP.mono ?_
        rintro x w5 ⟨rfl, hi5, -⟩
        have HI5 : Hid (OvI w q s m 0 20 (commitO O) w5) := hi5
        clear hi5 HP HI20
        generalize commitO O = O5 at *
        go_wp2
        go_loopw [11] (fun i wr => ∃ (j : Nat) (O : Ov), i = .int .i64 (j : Nat) ∧ j ≤ len2 ∧ Hid (OvI w q s m 0 (20 + j) O wr)) (fun i _ => len2 - (intOf i).toNat)
        case atStart => exact ⟨0, _, rfl, Nat.zero_le _, HI5.out⟩
        case round =>
          obtain ⟨j2, O, rfl, hj2, hI⟩ := hrel
          clear HI5
          by_cases hlt2 : j2 < len2
          · obtain ⟨gg, off, rfl, hgl, hcell⟩ := HR2.out.ac (by omega)
            obtain ⟨kd, ah, ap, au, hjj⟩ := ac_at (xs := ds) (j := j2) (by rw [HLN2.out]; exact hlt2)
            have HCW : Hid (∀ W, Below w.heap.size w W → (W.cell? ⟨gg, off + j2 * 4, none⟩ = some (.int .i64 kd) ∧ W.cell? ⟨gg, off + j2 * 4 + 1, none⟩ = some (.int .i64 ah)) ∧ W.cell? ⟨gg, off + j2 * 4 + 2, none⟩ = some (.int .i64 ap) ∧ W.cell? ⟨gg, off + j2 * 4 + 3, none⟩ = some (.int .u32 (au : Nat))) := fun W hb => by
              obtain ⟨x0, x1, x2, x3⟩ := hcell j2 _ hjj
              exact ⟨⟨(hb.cell (p := ⟨gg, off + j2 * 4, none⟩) hgl).trans x0, (hb.cell (p := ⟨gg, off + j2 * 4 + 1, none⟩) hgl).trans x1⟩, (hb.cell (p := ⟨gg, off + j2 * 4 + 2, none⟩) hgl).trans x2, (hb.cell (p := ⟨gg, off + j2 * 4 + 3, none⟩) hgl).trans x3⟩
            have HKI : Hid (KI (ah, ap)) := ⟨(HAI2.out _ (List.mem_of_getElem? hjj)).2.1, (HAI2.out _ (List.mem_of_getElem? hjj)).2.2.1⟩
            have HAU : Hid (au < 4294967296) := (HAI2.out _ (List.mem_of_getElem? hjj)).2.2.2
            obtain ⟨⟨y0, y1⟩, y2, y3⟩ := HCW.out wr hI.out.bel
            clear hcell hjj
            have HJ : Hid (0 + (20 + j2) ≤ 480) := by unfold Hid; omega
            by_cases k1 : kd = 1
            · subst k1
              have HP := hI.out.drop HT.out HJ.out ah ap HKI.out
              go_wp2_with fail
              refine HP.mono ?_
              rintro x w7 ⟨rfl, hi5, -⟩
              have HI5 : Hid (OvI w q s m 0 (20 + (j2 + 1)) _ w7) := hi5.more (by omega)
              clear hi5 HP y0 y1 y2 y3 hI
              go_wp2
              go_roundw
              case rel => exact ⟨j2 + 1, _, by go_num, by omega, HI5.out⟩
              case measure => simp [intOf]; omega
            · have e1 : (kd == 1) = false := by simpa using k1
              have HP := hI.out.put HT.out HJ.out ah ap HKI.out
              go_wp2_with fail
              refine HP.mono ?_
              rintro x w7 ⟨O5', a5, b5, c5, e5, rfl, -, hi5, -⟩
              have HI5 : Hid (OvI w q s m 0 (20 + (j2 + 1)) O5' w7) := hi5.more (by omega)
              have HSU : Hid (Calls Tryz.prog 12 #[.pointer (some ⟨q, 0, none⟩), .agg #[.int .i64 ah, .int .i64 ap], .int .u32 (au : Nat)] w7.drew fun x w' => x = .returned (.int .i64 (sumO O5' (ah, ap) au).2) ∧ OvI w q s m 0 (20 + (j2 + 1)) (sumO O5' (ah, ap) au).1 w') :=
                ((HI5.out.below (Below.refl _ _).drew).sum (by omega) ah ap au HKI.out HAU.out).mono fun x w' ⟨h1, h2, _⟩ => ⟨h1, h2⟩
              have HC7 : Hid (∀ W, OvI w q s m 0 (20 + (j2 + 1)) O5' W ∨ OvI w q s m 0 (20 + (j2 + 1)) (sumO O5' (ah, ap) au).1 W → (W.cell? ⟨gg, off + j2 * 4, none⟩ = some (.int .i64 kd) ∧ W.cell? ⟨gg, off + j2 * 4 + 1, none⟩ = some (.int .i64 ah)) ∧ W.cell? ⟨gg, off + j2 * 4 + 2, none⟩ = some (.int .i64 ap) ∧ W.cell? ⟨gg, off + j2 * 4 + 3, none⟩ = some (.int .u32 (au : Nat))) := fun W h => HCW.out W (h.elim (·.bel) (·.bel))
              have HI7 : Hid (OvI w q s m 0 (20 + (j2 + 1)) O5' w7.drew) := HI5.out.below (Below.refl _ _).drew
              clear hi5 HP y0 y1 y2 y3 hI
              obtain ⟨⟨y0, y1⟩, y2, y3⟩ := HC7.out w7 (.inl HI5.out)
              generalize sumO O5' (ah, ap) au = su at *
              go_wp2_with fail
              go_region_held3 (fun w' => (w'.cell? ⟨gg, off + j2 * 4, none⟩ = some (.int .i64 kd) ∧ w'.cell? ⟨gg, off + j2 * 4 + 1, none⟩ = some (.int .i64 ah)) ∧ w'.cell? ⟨gg, off + j2 * 4 + 2, none⟩ = some (.int .i64 ap) ∧ w'.cell? ⟨gg, off + j2 * 4 + 3, none⟩ = some (.int .u32 (au : Nat))) (first | exact HC7.out _ (.inl HI7.out) | exact HC7.out _ (.inr HI8.out)) (first
                | (go_at_call 12; with_reducible refine HSU.out.mono ?_; rintro x w8 ⟨rfl, hi8⟩
                   have HI8 : Hid (OvI w q s m 0 (20 + (j2 + 1)) su.1 w8) := hi8
                   clear hi8))
              all_goals
                clear HSU HC7 HI7
                go_wp2
                go_roundw
                case rel => exact ⟨j2 + 1, _, by go_num, by omega, HI8.out⟩
                case measure => simp [intOf]; omega
          · have HI6 : Hid (OvI w q s m 0 45 O wr) := hI.out.more (by omega)
            have hok := HI6.out.ok
            have htl := total_le hok
            rw [HI6.out.n] at htl
            have HCL : Hid ((committedO O).length ≤ 100) := by have := committed_len hok; unfold Hid; omega
            have HFL : Hid (O.fresh.length ≤ 100) := by have h1 : O.base.length + O.was.length + O.fresh.length ≤ m := htl; unfold Hid; omega
            have HCM : Hid (∀ m ∈ committedO O, MdI m) := committed_mdi hok (by omega)
            have HFM : Hid (∀ m ∈ O.fresh, MdI m) := part_mdi hok (by omega) (c := 2) (by decide) hok.rf
            have HDI : Hid (applyM (committedO O) O.fresh (goneL O) = allO O) := diff_is hok
            have HC2 : Hid (committedO (commitO O) = allO O) := committed_commit hok
            have HA2 : Hid (allO (commitO O) = allO O) := all_commit hok
            have HC := HI6.out.committed (by decide)
            clear hI hok htl
            go_wp2_with fail
            refine HC.mono ?_
            rintro x w1 ⟨u1, rfl, hu1, hb1, hg1⟩
            have HO1 := own_off HI6.out.at_ hg1
            have HI7 : Hid (OvI w q s m 0 45 O w1) := HI6.out.below hb1
            have HU1 : Hid (Els encM 5 w1 u1 (committedO O)) := hu1
            have HF1 : Hid (∀ g, u1.ownBlock = some g → g ≠ s.b ∧ g ≠ s.f ∧ g ≠ s.X ∧ g ≠ s.Y ∧ g ≠ s.Z) := HO1
            have HD := HI7.out.diff (by decide)
            clear hu1 hb1 hg1 HO1 HC HI6
            go_wp2_with fail
            refine HD.mono ?_
            rintro x w2 ⟨u2, v2, rfl, hu2, hv2, hb2, hg2, hk2⟩
            have HI8 : Hid (OvI w q s m 0 45 O w2) := HI7.out.below hb2
            have HU2 : Hid (Els encM 5 w2 u1 (committedO O)) := HU1.out.kept hb2
            have HP2 : Hid (Els encM 5 w2 u2 O.fresh) := hu2
            have HK2 : Hid (Keys w2 v2 (goneL O)) := hv2
            have HF2 : Hid (∀ g, u2.ownBlock = some g → g ≠ s.b ∧ g ≠ s.f ∧ g ≠ s.X ∧ g ≠ s.Y ∧ g ≠ s.Z) := own_off HI7.out.at_ hg2
            have HG2 : Hid (∀ g, v2.ownBlock = some g → g ≠ s.b ∧ g ≠ s.f ∧ g ≠ s.X ∧ g ≠ s.Y ∧ g ≠ s.Z) := own_off HI7.out.at_ hk2
            have HA := HI8.out.all (by decide)
            clear hu2 hv2 hb2 hg2 hk2 HD HI7 HU1
            go_wp2_with fail
            refine HA.mono ?_
            rintro x w3 ⟨u3, rfl, hu3, hb3, hg3⟩
            have HI9 : Hid (OvI w q s m 0 45 O w3) := HI8.out.below hb3
            have HU3 : Hid (Els encM 5 w3 u1 (committedO O)) := HU2.out.kept hb3
            have HP3 : Hid (Els encM 5 w3 u2 O.fresh) := HP2.out.kept hb3
            have HK3 : Hid (Keys w3 v2 (goneL O)) := HK2.out.kept hb3
            have HA3 : Hid (Els encM 5 w3 u3 (allO O)) := hu3
            have HF3 : Hid (∀ g, u3.ownBlock = some g → g ≠ s.b ∧ g ≠ s.f ∧ g ≠ s.X ∧ g ≠ s.Y ∧ g ≠ s.Z) := own_off HI8.out.at_ hg3
            have HCO := HI9.out.commit HT.out (by decide)
            clear hu3 hb3 hg3 HA HI8 HU2 HP2 HK2
            go_wp2_with fail
            refine HCO.mono ?_
            rintro x w4 ⟨rfl, hi4, hs4⟩
            have HI10 : Hid (OvI w q s m 0 45 (commitO O) w4) := hi4
            have HU4 : Hid (Els encM 5 w4 u1 (committedO O)) := HU3.out.ov hs4 HF1.out
            have HP4 : Hid (Els encM 5 w4 u2 O.fresh) := HP3.out.ov hs4 HF2.out
            have HK4 : Hid (Keys w4 v2 (goneL O)) := HK3.out.spared hs4.size fun g hg hlt => hs4.heap hlt (HG2.out g hg)
            have HA4 : Hid (Els encM 5 w4 u3 (allO O)) := HA3.out.ov hs4 HF3.out
            have HAP := refApply11_any w4 u1 u2 v2 _ _ _ HU4.out HP4.out HK4.out HCL.out HFL.out HCM.out HFM.out
            rw [HDI.out] at HAP
            clear hi4 hs4 HCO HI9 HU3 HP3 HK3 HA3 HF1 HF2 HF3 HG2
            go_wp2_with fail
            refine HAP.mono ?_
            rintro x w5 ⟨u5, rfl, hu5, hb5⟩
            have HI11 : Hid (OvI w q s m 0 45 (commitO O) w5) := HI10.out.below hb5
            have HU5 : Hid (Els encM 5 w5 u5 (allO O)) := hu5
            have HA5 : Hid (Els encM 5 w5 u3 (allO O)) := HA4.out.kept hb5
            have HC5 := HI11.out.committed (by decide)
            rw [HC2.out] at HC5
            clear hu5 hb5 HAP HI10 HU4 HP4 HK4 HA4
            go_wp2_with fail
            refine HC5.mono ?_
            rintro x w6 ⟨u6, rfl, hu6, hb6, -⟩
            have HI12 : Hid (OvI w q s m 0 45 (commitO O) w6) := HI11.out.below hb6
            have HA6 : Hid (Els encM 5 w6 u3 (allO O)) := HA5.out.kept hb6
            have HS6 := same11_any w6 u5 u6 (allO O) (HU5.out.kept hb6) hu6
            clear hu6 hb6 HC5 HI11 HU5 HA5
            go_wp2_with fail
            refine HS6.mono ?_
            rintro x w7 ⟨rfl, y7, rfl⟩
            have hb7 := drewN_below w6 y7
            have HI13 : Hid (OvI w q s m 0 45 (commitO O) (w6.drewN y7)) := HI12.out.below hb7
            have HA7 : Hid (Els encM 5 (w6.drewN y7) u3 (allO O)) := HA6.out.kept hb7
            generalize w6.drewN y7 = w7 at *
            have HC7 := HI13.out.committed (by decide)
            rw [HC2.out] at HC7
            clear hb7 HS6 HI12 HA6
            go_wp2_with fail
            refine HC7.mono ?_
            rintro x w8 ⟨u8, rfl, hu8, hb8, -⟩
            have HI14 : Hid (OvI w q s m 0 45 (commitO O) w8) := HI13.out.below hb8
            have HA8 : Hid (Els encM 5 w8 u3 (allO O)) := HA7.out.kept hb8
            have HS8 := same11_any w8 u8 u3 (allO O) hu8 HA8.out
            clear hu8 hb8 HC7 HI13 HA7
            go_wp2_with fail
            refine HS8.mono ?_
            rintro x w9 ⟨rfl, y9, rfl⟩
            have hb9 := drewN_below w8 y9
            have HI15 : Hid (OvI w q s m 0 45 (commitO O) (w8.drewN y9)) := HI14.out.below hb9
            have HA9 : Hid (Els encM 5 (w8.drewN y9) u3 (allO O)) := HA8.out.kept hb9
            generalize w8.drewN y9 = w9 at *
            have HL9 := HI15.out.all (by decide)
            rw [HA2.out] at HL9
            clear hb9 HS8 HI14 HA8
            go_wp2_with fail
            refine HL9.mono ?_
            rintro x w10 ⟨u10, rfl, hu10, hb10, -⟩
            have HB10 : Hid (Below w.heap.size w w10) := HI15.out.bel.trans (hb10.mono HI15.out.bel.size)
            have HS10 := same11_any w10 u10 u3 (allO O) hu10 (HA9.out.kept hb10)
            clear hu10 hb10 HL9 HI15 HA9
            go_wp2_with fail
            refine HS10.mono ?_
            rintro x w11 ⟨rfl, y11, rfl⟩
            go_wp2
            go_ret
            exact ⟨rfl, HB10.out.trans ((drewN_below w10 y11).mono HB10.out.size)⟩
end Go.Proofs.YtjhkcdnfnmglhaaGreatDoor
