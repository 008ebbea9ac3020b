/- The law OverlayNever. -/
import Derived.Test.YtjhkcdnfnmglhaaDoorMathNever12
import Derived.BigQuiet
namespace Go.Proofs.YtjhkcdnfnmglhaaDoor
open Go.RowKit
set_option linter.unusedVariables false
set_option maxRecDepth 20000

set_option maxHeartbeats 8000000 in
theorem overlayNever_walk (n : Int) (a1 : Option Addr) (len1 cap1 : Nat) (cs : List Ac12) (a2 : Option Addr) (len2 cap2 : Nat) (ds : List Ac12) (w : World) (ht : Steps w) (f0 : (Lit.int .i64 n).wf = true) (f1 : Els encA 4 w (.slice a1 len1 cap1) cs ∧ ∀ y ∈ cs, AcI y) (f2 : Els encA 4 w (.slice a2 len2 cap2) ds ∧ ∀ y ∈ ds, AcI y) :
    Calls Tryd.prog 4 #[.int .i64 n, .slice a1 len1 cap1, .slice a2 len2 cap2] w fun e w' => e = .returned (.bool true) ∧ Below w.heap.size w w' := by
  have hn : I64 n := by simpa [Lit.wf, IntKind.min, IntKind.max, IntKind.signed, IntKind.bits, I64] using f0
  have HT : Hid (Steps w) := ht
  have hlen : len1 ≤ 9223372036854775807 ∧ len2 ≤ 9223372036854775807 := by
    have h1 := f1.1.lenEq
    have h2 := f1.1.1
    have h3 := f2.1.lenEq
    have h4 := f2.1.1
    unfold maxLen at h2 h4
    omega
  have HAw : Hid (∀ W, Below w.heap.size w W → Calls Tryd.prog 5 #[] W fun x w' => x = .returned (.bool true) ∧ Below W.heap.size W w') := fun W hb => awake12_any W (HT.out.below hb)
  by_cases hl : 20 < len1 ∨ 25 < len2
  · by_cases hl1 : 20 < len1
    · clear f1 f2 hn f0 hl
      go_enter Tryd.func4, Tryd.ntmps4
      go_wp2_with fail
      refine (HAw.out w (Below.refl _ _)).mono ?_
      rintro e w1 ⟨rfl, hB⟩
      have HB : Hid (Below w.heap.size w w1) := hB
      clear hB
      go_wp2_with fail
      refine (HAw.out w1 HB.out).mono ?_
      rintro e w2 ⟨rfl, hB2⟩
      have HB2 : Hid (Below w.heap.size w w2) := HB.out.trans (hB2.mono HB.out.size)
      clear hB2
      go_wp2
      go_ret
      exact ⟨rfl, HB2.out⟩
    · have hl2 : 25 < len2 := hl.resolve_left hl1
      clear f1 f2 hn f0 hl
      go_enter Tryd.func4, Tryd.ntmps4
      go_wp2_with fail
      refine (HAw.out w (Below.refl _ _)).mono ?_
      rintro e w1 ⟨rfl, hB⟩
      have HB : Hid (Below w.heap.size w w1) := hB
      clear hB
      go_wp2_with fail
      refine (HAw.out w1 HB.out).mono ?_
      rintro e w2 ⟨rfl, hB2⟩
      have HB2 : Hid (Below w.heap.size w w2) := HB.out.trans (hB2.mono HB.out.size)
      clear hB2
      go_wp2
      go_ret
      exact ⟨rfl, HB2.out⟩
  · have hl1 : len1 ≤ 20 := by omega
    have hl2 : len2 ≤ 25 := by omega
    obtain ⟨r, hr, hr5⟩ := mod_any n 12 (by decide) (by decide) hn
    obtain ⟨m, hm⟩ : ∃ m, m = 1 + r := ⟨_, rfl⟩
    have HM : Hid (wrap64 (1 + (wrap64 (n.tmod 12 + 12)).tmod 12) = (m : Int)) := by
      unfold Hid
      have e1 : (wrap64 (n.tmod 12 + 12)).tmod 12 = (r : Int) := hr
      rw [e1, show (1 : Int) + (r : Int) = ((m : Nat) : Int) by omega, wrap_nat m (by omega)]
    have hm1 : 1 ≤ m ∧ m ≤ 12 := by omega
    have HR : Hid (Els encA 4 w (.slice a1 len1 cap1) cs) := f1.1
    have HAI : Hid (∀ y ∈ cs, AcI y) := f1.2
    have HLN : Hid (cs.length = len1) := f1.1.lenEq
    have HR2 : Hid (Els encA 4 w (.slice a2 len2 cap2) ds) := f2.1
    have HAI2 : Hid (∀ y ∈ ds, AcI y) := f2.2
    have HLN2 : Hid (ds.length = len2) := f2.1.lenEq
    clear hr hr5 hm f0 f1 f2 ht hn hl
    go_enter Tryd.func4, Tryd.ntmps4
    go_wp2_with fail
    refine (HAw.out w (Below.refl _ _)).mono ?_
    rintro e w1 ⟨rfl, hB⟩
    have HN := newI w w1 m HT.out hB hm1.1 (by omega)
    clear hB HAw
    go_wp2_with fail
    rw [HM.out]
    refine HN.mono ?_
    rintro e w2 ⟨q, s, rfl, hI⟩
    have HI : Hid (OvI w q s m 0 0 (newO m []) w2) := hI
    clear hI HN HM
    go_wp2
    go_loopw [10] (fun i wr => ∃ (j : Nat) (O : Ov), i = .int .i64 (j : Nat) ∧ j ≤ len1 ∧ Hid (OvI w q s m 0 j O wr)) (fun i _ => len1 - (intOf i).toNat)
    case atStart => exact ⟨0, _, rfl, Nat.zero_le _, HI.out⟩
    case round =>
      obtain ⟨j, O, rfl, hj, hI⟩ := hrel
      by_cases hlt : j < len1
      · obtain ⟨gg, off, rfl, hgl, hcell⟩ := HR.out.ac (by omega)
        obtain ⟨kd, ah, ap, au, hjj⟩ := ac_at (xs := cs) (j := j) (by rw [HLN.out]; exact hlt)
        obtain ⟨x0, x1, x2, x3⟩ := hcell j _ hjj
        have HKI : Hid (KI (ah, ap)) := ⟨(HAI.out _ (List.mem_of_getElem? hjj)).2.1, (HAI.out _ (List.mem_of_getElem? hjj)).2.2.1⟩
        have y0 := (hI.out.bel.cell (p := ⟨gg, off + j * 4, none⟩) hgl).trans x0
        have y1 := (hI.out.bel.cell (p := ⟨gg, off + j * 4 + 1, none⟩) hgl).trans x1
        have y2 := (hI.out.bel.cell (p := ⟨gg, off + j * 4 + 2, none⟩) hgl).trans x2
        simp only at y0 y1 y2
        clear x0 x1 x2 x3 hcell hjj
        have HJ : Hid (0 + j ≤ 480) := by unfold Hid; omega
        by_cases k1 : kd = 1
        · subst k1
          have HP := hI.out.drop HT.out HJ.out ah ap HKI.out
          go_wp2_with fail
          refine HP.mono ?_
          rintro x w5 ⟨rfl, hi5, -⟩
          have HI5 : Hid (OvI w q s m 0 (j + 1) _ w5) := hi5.more (Nat.le_succ j)
          clear hi5 HP y0 y1 y2 hI
          go_wp2
          go_roundw
          case rel => exact ⟨j + 1, _, by go_num, by omega, HI5.out⟩
          case measure => simp [intOf]; omega
        · have e1 : (kd == 1) = false := by simpa using k1
          have HP := hI.out.put HT.out HJ.out ah ap HKI.out
          go_wp2_with fail
          refine HP.mono ?_
          rintro x w5 ⟨O5, a5, b5, c5, e5, rfl, -, hi5, -⟩
          have HI5 : Hid (OvI w q s m 0 (j + 1) O5 w5) := hi5
          clear hi5 HP y0 y1 y2 hI
          go_wp2
          go_roundw
          case rel => exact ⟨j + 1, _, by go_num, by omega, HI5.out⟩
          case measure => simp [intOf]; omega
      · have HI20 : Hid (OvI w q s m 0 20 O wr) := hI.out.more (by omega)
        have HP := HI20.out.commit HT.out (by decide)
        clear hI HI
        go_wp2_with fail
        refine HP.mono ?_
        rintro x w5 ⟨rfl, hi5, -⟩
        have HI5 : Hid (OvI w q s m 0 20 (commitO O) w5) := hi5
        have HC := HI5.out.committed (by decide)
        clear hi5 HP HI20
        generalize commitO O = O5 at *
        go_wp2_with fail
        refine HC.mono ?_
        rintro x w6 ⟨u, rfl, hu, hb6, hg6⟩
        have HOFF : Hid (∀ g, u.ownBlock = some g → g ≠ s.b ∧ g ≠ s.f ∧ g ≠ s.X ∧ g ≠ s.Y ∧ g ≠ s.Z) := own_off HI5.out.at_ hg6
        have HI6 : Hid (OvI w q s m 0 20 O5 w6) := HI5.out.below hb6
        obtain ⟨p6, q6, rfl⟩ := hu.shape
        have hT9 : (committedO O5).length ≤ 9223372036854775807 := by have := hu.1; unfold maxLen at this; omega
        obtain ⟨T, hT⟩ : ∃ T, T = (committedO O5).length := ⟨_, rfl⟩
        rw [← hT] at hu hT9 HOFF ⊢
        have HU : Hid (Els encM 5 w6 (.slice p6 T q6) (committedO O5)) := hu
        have HTL : Hid (T = (committedO O5).length) := hT
        obtain ⟨C, hC⟩ : ∃ C, C = committedO O5 := ⟨_, rfl⟩
        rw [← hC] at HU HTL
        have HCC : Hid (committedO O5 = C) := hC.symm
        clear hu hb6 hg6 HC hT hC HI5
        go_wp2_with fail
        go_loopw [12] (fun i wr => ∃ (j : Nat) (O : Ov), i = .int .i64 (j : Nat) ∧ j ≤ len2 ∧ Hid (OvI w q s m 0 (20 + j) O wr) ∧ Hid (committedO O = C) ∧ Hid (Els encM 5 wr (.slice p6 T q6) C)) (fun i _ => len2 - (intOf i).toNat)
        case atStart => exact ⟨0, _, rfl, Nat.zero_le _, HI6.out, HCC.out, HU.out⟩
        case round =>
          obtain ⟨j2, O, rfl, hj2, hI, HCO, HUr⟩ := hrel
          clear HI6 HCC HU
          by_cases hlt2 : j2 < len2
          · obtain ⟨gg, off, rfl, hgl, hcell⟩ := HR2.out.ac (by omega)
            obtain ⟨kd, ah, ap, au, hjj⟩ := ac_at (xs := ds) (j := j2) (by rw [HLN2.out]; exact hlt2)
            obtain ⟨x0, x1, x2, x3⟩ := hcell j2 _ hjj
            have HKI : Hid (KI (ah, ap)) := ⟨(HAI2.out _ (List.mem_of_getElem? hjj)).2.1, (HAI2.out _ (List.mem_of_getElem? hjj)).2.2.1⟩
            have y0 := (hI.out.bel.cell (p := ⟨gg, off + j2 * 4, none⟩) hgl).trans x0
            have y1 := (hI.out.bel.cell (p := ⟨gg, off + j2 * 4 + 1, none⟩) hgl).trans x1
            have y2 := (hI.out.bel.cell (p := ⟨gg, off + j2 * 4 + 2, none⟩) hgl).trans x2
            simp only at y0 y1 y2
            clear x0 x1 x2 x3 hcell hjj
            have HJ : Hid (0 + (20 + j2) ≤ 480) := by unfold Hid; omega
            by_cases k1 : kd = 1
            · subst k1
              have HP := hI.out.drop HT.out HJ.out ah ap HKI.out
              go_wp2_with fail
              refine HP.mono ?_
              rintro x w7 ⟨rfl, hi5, hs5⟩
              have HI5 : Hid (OvI w q s m 0 (20 + (j2 + 1)) _ w7) := hi5.more (by omega)
              have HC5 : Hid (committedO (dropO O (ah, ap)).1 = C) := (committed_drop hI.out.ok _).trans HCO.out
              have HU5 : Hid (Els encM 5 w7 (.slice p6 T q6) C) := HUr.out.ov hs5 HOFF.out
              clear hi5 HP y0 y1 y2 hI hs5
              go_wp2
              go_roundw
              case rel => exact ⟨j2 + 1, _, by go_num, by omega, HI5.out, HC5.out, HU5.out⟩
              case measure => simp [intOf]; omega
            · have e1 : (kd == 1) = false := by simpa using k1
              have HP := hI.out.put HT.out HJ.out ah ap HKI.out
              go_wp2_with fail
              refine HP.mono ?_
              rintro x w7 ⟨O5', a5, b5, c5, e5, rfl, hpr, hi5, hs5⟩
              have HI5 : Hid (OvI w q s m 0 (20 + (j2 + 1)) O5' w7) := hi5.more (by omega)
              have HC5 : Hid (committedO O5' = C) := (committed_put hI.out.ok hpr).trans HCO.out
              have HU5 : Hid (Els encM 5 w7 (.slice p6 T q6) C) := HUr.out.ov hs5 HOFF.out
              have HAP : Hid (e5 = 0 → ∀ y ∈ C, y.s ≠ a5) := fun he y hy => by
                subst he
                rw [← HCO.out] at hy
                exact put_apart hI.out.ok hpr hy
              obtain ⟨V, hV⟩ : ∃ V, V = w7.alloc (.cells #[.int .i64 a5, .int .i64 b5, .int .u32 (c5 : Nat)] 34) := ⟨_, rfl⟩
              have hbv : Below w7.heap.size w7 V := by rw [hV]; exact (Below.refl _ _).alloc (Nat.le_refl _) _
              have HE : Hid (V.heap[w7.heap.size]? = some (.cells #[.int .i64 a5, .int .i64 b5, .int .u32 (c5 : Nat)] 34 (0, 0))) := by rw [hV]; exact heap_alloc_new w7 _
              have HIV : Hid (OvI w q s m 0 (20 + (j2 + 1)) O5' V) := HI5.out.below hbv
              have HUV : Hid (Els encM 5 V (.slice p6 T q6) C) := HU5.out.kept hbv
              clear hi5 HP y0 y1 y2 hI hs5 hpr hbv HI5 HU5
              go_wp2_with fail
              try rw [← hV]
              generalize w7.heap.size = E at *
              clear hV
              go_loopw [15] (fun i wx => ∃ y : Nat, i = .int .i64 (y : Nat) ∧ y ≤ T ∧ Hid (Below V.heap.size V wx)) (fun i _ => T - (intOf i).toNat)
              case atStart => exact ⟨0, rfl, Nat.zero_le _, Below.refl _ _⟩
              case round =>
                obtain ⟨y, rfl, hy, HBx⟩ := hrel
                by_cases hgo : y < T ∧ e5 = 0
                · obtain ⟨hyl, rfl⟩ := hgo
                  obtain ⟨b, off2, rfl, hbl, hcell2⟩ := (HUV.out.kept HBx.out).md (by omega)
                  obtain ⟨mh, mp, ms, mg, mu, hkk⟩ := md_at (xs := C) (j := y) (by rw [← HTL.out]; exact hyl)
                  obtain ⟨d0, d1, d2, d3, d4⟩ := hcell2 y _ hkk
                  have hne := HAP.out rfl _ (List.mem_of_getElem? hkk)
                  obtain ⟨⟨t0, t1, t2⟩, -⟩ := cells3' ((HBx.out.block E (lt_of_heap HE.out)).trans HE.out)
                  simp only at d0 d1 d2 d3 d4 hne
                  have hneb : (ms == a5) = false := by simpa using hne
                  have HBd : Hid (∀ y, Below V.heap.size V (wr.drewN y)) := fun y => HBx.out.trans ((drewN_below wr y).mono HBx.out.size)
                  clear hcell2 hkk d0 d1 d3 d4 hbl t1 t2
                  go_wp2_with fail
                  go_quiet (fail)
                  go_wp2
                  go_roundw
                  case rel => exact ⟨y + 1, by go_num, by omega, HBd.out _⟩
                  case measure => simp [intOf]; omega
                · have HIE : Hid (OvI w q s m 0 (20 + (j2 + 1)) O5' wr) := HIV.out.below HBx.out
                  have HUE : Hid (Els encM 5 wr (.slice p6 T q6) C) := HUV.out.kept HBx.out
                  by_cases hyl : y < T
                  · have hee : (e5 == 0) = false := by simpa using fun h => hgo ⟨hyl, h⟩
                    clear HBx
                    go_wp2
                    go_roundw
                    case rel => exact ⟨j2 + 1, _, by go_num, by omega, HIE.out, HC5.out, HUE.out⟩
                    case measure => simp [intOf]; omega
                  · clear HBx
                    go_wp2
                    go_roundw
                    case rel => exact ⟨j2 + 1, _, by go_num, by omega, HIE.out, HC5.out, HUE.out⟩
                    case measure => simp [intOf]; omega
          · have HIE : Hid (OvI w q s m 0 45 O wr) := hI.out.more (by omega)
            have HCM := HIE.out.committed (by decide)
            clear hI
            go_wp2_with fail
            refine HCM.mono ?_
            rintro x w8 ⟨u8, rfl, hu8, hb8, -⟩
            rw [HCO.out] at hu8
            have HB8 : Hid (Below w.heap.size w w8) := HIE.out.bel.trans (hb8.mono HIE.out.bel.size)
            have HSA := same11_any w8 u8 (.slice p6 T q6) C hu8 (HUr.out.kept hb8)
            clear hu8 hb8 HCM HIE HUr
            go_wp2_with fail
            refine HSA.mono ?_
            rintro x w9 ⟨rfl, y9, rfl⟩
            go_wp2
            go_ret
            exact ⟨rfl, HB8.out.trans ((drewN_below w8 y9).mono HB8.out.size)⟩
end Go.Proofs.YtjhkcdnfnmglhaaDoor
