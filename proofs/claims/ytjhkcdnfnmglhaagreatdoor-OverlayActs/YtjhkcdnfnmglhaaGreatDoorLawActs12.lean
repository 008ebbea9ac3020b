/- The law OverlayActs. -/
import Derived.Test.YtjhkcdnfnmglhaaGreatDoorSame12
import Derived.Test.YtjhkcdnfnmglhaaGreatDoorMathActs12
import Derived.Test.YtjhkcdnfnmglhaaGreatDoorJ5
import Derived.BigQuiet
namespace Go.Proofs.YtjhkcdnfnmglhaaGreatDoor
open Go.RowKit
set_option linter.unusedVariables false
set_option maxRecDepth 20000

set_option maxHeartbeats 16000000 in
theorem overlayActs_walk (n : Int) (a1 : Option Addr) (len1 cap1 : Nat) (cm : List Md) (a2 : Option Addr) (len2 cap2 : Nat) (cs : List Ac12) (w : World) (ht : Steps w) (f0 : (Lit.int .i64 n).wf = true) (f1 : Els encM 5 w (.slice a1 len1 cap1) cm) (g1 : ∀ y ∈ cm, MdI y) (f2 : Els encA 4 w (.slice a2 len2 cap2) cs ∧ ∀ y ∈ cs, AcI y) :
    Calls Tryz.prog 3 #[.int .i64 n, .slice a1 len1 cap1, .slice a2 len2 cap2] w fun e w' => e = .returned (.bool true) ∧ Below w.heap.size w w' := by
  have hn : I64 n := by simpa [Lit.wf, IntKind.min, IntKind.max, IntKind.signed, IntKind.bits, I64] using f0
  have HT : Hid (Steps w) := ht
  have hlen : len1 ≤ 9223372036854775807 ∧ len2 ≤ 9223372036854775807 := by
    have h1 := f1.lenEq
    have h2 := f1.1
    have h3 := f2.1.lenEq
    have h4 := f2.1.1
    unfold maxLen at h2 h4
    omega
  have HAw : Hid (∀ W, Below w.heap.size w W → Calls Tryz.prog 5 #[] W fun x w' => x = .returned (.bool true) ∧ Below W.heap.size W w') := fun W hb => awake12_any W (HT.out.below hb)
  by_cases hl : 20 < len1 ∨ 25 < len2
  · by_cases hl1 : 20 < len1
    · clear f1 g1 f2 hn f0 hl
      go_enter Tryz.func3, Tryz.ntmps3
      go_wp2_with fail
      refine (HAw.out w (Below.refl _ _)).mono ?_
      rintro e w1 ⟨rfl, hB⟩
      have HB : Hid (Below w.heap.size w w1) := hB
      clear hB
      go_wp2_with fail
      refine (HAw.out w1 HB.out).mono ?_
      rintro e w2 ⟨rfl, hB2⟩
      have HB2 : Hid (Below w.heap.size w w2) := HB.out.trans (hB2.mono HB.out.size)
      clear hB2
      go_wp2
      go_ret
      exact ⟨rfl, HB2.out⟩
    · have hl2 : 25 < len2 := hl.resolve_left hl1
      clear f1 g1 f2 hn f0 hl
      go_enter Tryz.func3, Tryz.ntmps3
      go_wp2_with fail
      refine (HAw.out w (Below.refl _ _)).mono ?_
      rintro e w1 ⟨rfl, hB⟩
      have HB : Hid (Below w.heap.size w w1) := hB
      clear hB
      go_wp2_with fail
      refine (HAw.out w1 HB.out).mono ?_
      rintro e w2 ⟨rfl, hB2⟩
      have HB2 : Hid (Below w.heap.size w w2) := HB.out.trans (hB2.mono HB.out.size)
      clear hB2
      go_wp2
      go_ret
      exact ⟨rfl, HB2.out⟩
  · have hl1 : len1 ≤ 20 := by omega
    have hl2 : len2 ≤ 25 := by omega
    have HC : Hid (Els encM 5 w (.slice a1 len1 cap1) cm) := f1
    have HCM : Hid (∀ y ∈ cm, MdI y) := g1
    have HCL : Hid (cm.length ≤ 20) := by have := f1.lenEq; unfold Hid; omega
    have HOLD : Hid (∀ g, OwnsL cm (.slice a1 len1 cap1) g → g < w.heap.size) := fun g h0 => by
      obtain ⟨b, off, rfl, hb, -⟩ := f1.addr (by have := List.length_pos_iff.2 h0.1; have := f1.lenEq; omega)
      have h1 := h0.2
      simp only [Value.ownBlock, Option.some.injEq] at h1
      omega
    have HR : Hid (Els encA 4 w (.slice a2 len2 cap2) cs) := f2.1
    have HAI : Hid (∀ y ∈ cs, AcI y) := f2.2
    have HLN : Hid (cs.length = len2) := f2.1.lenEq
    clear f0 f1 g1 f2 ht hl
    go_enter Tryz.func3, Tryz.ntmps3
    go_wp2_with fail
    refine (HAw.out w (Below.refl _ _)).mono ?_
    rintro e w1 ⟨rfl, hB⟩
    have HB1 : Hid (Below w.heap.size w w1) := hB
    have HN := newI2 w w1 n (.slice a1 len1 cap1) cm HT.out hB (HC.out.kept hB) HCL.out HCM.out hn
    clear hB HAw
    go_wp2_with fail
    refine HN.mono ?_
    rintro e w2 ⟨hb2, ⟨k, q, s, rfl, hk1, hk2, hr, rfl, hI, hnb⟩ | ⟨hno, rfl⟩⟩
    · have HI : Hid (OvI w q s k 20 0 (newO k cm) w2) := hI
      have HNR := hI.refNew k (.slice a1 len1 cap1) cm (HC.out.kept hI.bel) HCL.out HCM.out hk1 hk2 hr HOLD.out
      clear hb2 hnb hI HN HOLD HB1 hr
      go_wp2_with fail
      refine HNR.mono ?_
      rintro e w3 ⟨p, pb, b, rfl, hI3, hF3⟩
      have HI3 : Hid (OvI w q s k 20 0 (newO k cm) w3) := hI3
      have HF3 : Hid (RefI w s p pb b (newO k cm) w3) := hF3
      clear hI3 hF3 HI HNR HC HCM HCL
      by_cases h300 : 300 < k
      · have HBE : Hid (Below w.heap.size w w3) := HI3.out.bel
        go_wp2
        go_ret
        exact ⟨rfl, HBE.out⟩
      · have h300' : k ≤ 300 := by omega
        clear h300
        go_wp2_with fail
        go_loopw [10] (fun i wr => ∃ (j : Nat) (O : Ov), i = .int .i64 (j : Nat) ∧ j ≤ len2 ∧ Hid (OvI w q s k 20 j O wr) ∧ Hid (RefI w s p pb b O wr)) (fun i _ => len2 - (intOf i).toNat)
        case atStart => exact ⟨0, _, rfl, Nat.zero_le _, HI3.out, HF3.out⟩
        case round =>
          obtain ⟨j, O, rfl, hj, hI, hF⟩ := hrel
          clear HI3 HF3
          by_cases hlt : j < len2
          · obtain ⟨gg, off, rfl, hgl, hcell⟩ := HR.out.ac (by omega)
            obtain ⟨kd, ah, ap, au, hjj⟩ := ac_at (xs := cs) (j := j) (by rw [HLN.out]; exact hlt)
            obtain ⟨x0, x1, x2, x3⟩ := hcell j _ hjj
            have HKI : Hid (KI (ah, ap)) := ⟨(HAI.out _ (List.mem_of_getElem? hjj)).2.1, (HAI.out _ (List.mem_of_getElem? hjj)).2.2.1⟩
            have HAU : Hid (au < 4294967296) := (HAI.out _ (List.mem_of_getElem? hjj)).2.2.2
            have y0 := (hI.out.bel.cell (p := ⟨gg, off + j * 4, none⟩) hgl).trans x0
            have y1 := (hI.out.bel.cell (p := ⟨gg, off + j * 4 + 1, none⟩) hgl).trans x1
            have y2 := (hI.out.bel.cell (p := ⟨gg, off + j * 4 + 2, none⟩) hgl).trans x2
            have y3 := (hI.out.bel.cell (p := ⟨gg, off + j * 4 + 3, none⟩) hgl).trans x3
            simp only at y0 y1 y2 y3
            clear x0 x1 x2 x3 hcell hjj
            go_upto_block 2 with fail
            obtain ⟨V, hV⟩ : ∃ V, V = wr.alloc (.cells #[.int .i64 kd, .int .i64 ah, .int .i64 ap, .int .u32 (au : Nat)] 35) := ⟨_, rfl⟩
            have HGA : Hid (V.heap[wr.heap.size]? = some (.cells #[.int .i64 kd, .int .i64 ah, .int .i64 ap, .int .u32 (au : Nat)] 35 (0, 0))) := by rw [hV]; exact heap_alloc_new wr _
            have hbV : Below wr.heap.size wr V := by rw [hV]; exact (Below.refl _ _).alloc (Nat.le_refl _) _
            have HIV : Hid (OvI w q s k 20 j O V) := hI.out.below hbV
            have HFV : Hid (RefI w s p pb b O V) := hF.out.below hbV
            rw [← hV]
            obtain ⟨A, hA⟩ : ∃ A, A = wr.heap.size := ⟨_, rfl⟩
            rw [← hA] at HGA
            try rw [← hA]
            clear hV hbV hA y0 y1 y2 y3 hI hF hgl
            have HJ : Hid (20 + j ≤ 60) := by unfold Hid; omega
            have HTL : Hid (totalO O ≤ 90) := by have := HIV.out.tot; have := HJ.out; unfold Hid; omega
            have HOK : Hid (OvOk O (281474976710655 + (j : Int))) := HIV.out.ok
            obtain ⟨AC, hAC⟩ : ∃ AC, AC = Obj.cells #[.int .i64 kd, .int .i64 ah, .int .i64 ap, .int .u32 (au : Nat)] 35 (0, 0) := ⟨_, rfl⟩
            have HAC : Hid (∀ W : World, W.heap[A]? = some AC → W.cell? ⟨A, 0, none⟩ = some (.int .i64 kd) ∧ W.cell? ⟨A, 1, none⟩ = some (.int .i64 ah) ∧ W.cell? ⟨A, 2, none⟩ = some (.int .i64 ap) ∧ W.cell? ⟨A, 3, none⟩ = some (.int .u32 (au : Nat))) := fun W h => cells4z (h.trans (congrArg some hAC))
            have HKT : Hid (∀ W W' : World, KeepT W W' → W.heap[A]? = some AC → W'.heap[A]? = some AC) := fun W W' h e => by rw [hAC] at e ⊢; exact h _ _ _ _ e (by decide) (by decide) (by decide) (by decide)
            rw [← hAC] at HGA
            clear hAC
            go_cut [12] from 62 to 159 (fun s12 wx => s12 = .bool true ∧ ∃ O', Hid (OvI w q s k 20 (j + 1) O' wx) ∧ Hid (RefI w s p pb b O' wx))
            case first =>
              obtain ⟨z0, z1, z2, z3⟩ := HAC.out _ HGA.out
              by_cases k0 : kd = 0
              · subst k0
                have HP := HIV.out.put HT.out (by have := HJ.out; omega) ah ap HKI.out
                go_wp2_with fail
                refine HP.mono ?_
                rintro x w5 ⟨O5, a5, b5, c5, e5, rfl, hp5, hi5, hs5⟩
                have HP5 : Hid (PutRel O (ah, ap) O5 (a5, b5, c5) e5) := hp5
                have HA5 : Hid (w5.heap[A]? = some AC) := HKT.out _ _ (KeepT.ov hs5 HIV.out.at_) HGA.out
                obtain ⟨V5, hV5⟩ : ∃ V5, V5 = w5.alloc (.cells #[.int .i64 a5, .int .i64 b5, .int .u32 (c5 : Nat)] 37) := ⟨_, rfl⟩
                have hb5 : Below w5.heap.size w5 V5 := by rw [hV5]; exact (Below.refl _ _).alloc (Nat.le_refl _) _
                have HE5 : Hid (V5.heap[w5.heap.size]? = some (.cells #[.int .i64 a5, .int .i64 b5, .int .u32 (c5 : Nat)] 37 (0, 0))) := by rw [hV5]; exact heap_alloc_new w5 _
                have HI5 : Hid (OvI w q s k 20 (j + 1) O5 V5) := hi5.below hb5
                have HF5 : Hid (RefI w s p pb b O V5) := (HFV.out.ov hs5).below hb5
                obtain ⟨z4, z5, z6, z7⟩ := HAC.out _ ((hb5.block _ (lt_of_heap HA5.out)).trans HA5.out)
                have HQ := HI5.out.refPut HF5.out HOK.out (by omega) (by omega) HTL.out ah ap
                rw [hV5] at z4 z5 z6 z7
                clear hi5 hs5 hp5 hb5 HP z0 z1 z2 z3 HIV HFV HGA
                go_wp2_with fail
                try rw [← hV5]
                generalize w5.heap.size = E5 at *
                clear hV5 z4 z5 z6 z7
                refine HQ.mono ?_
                rintro x w6 ⟨O6, a6, b6, c6, e6, rfl, hp6, hi6, hf6, hk6⟩
                obtain ⟨rfl, hx, rfl⟩ := hp6.same HOK.out.tail HP5.out
                simp only [Prod.mk.injEq] at hx
                obtain ⟨rfl, rfl, rfl⟩ := hx
                have HI6 : Hid (OvI w q s k 20 (j + 1) O6 w6) := hi6
                have HF6 : Hid (RefI w s p pb b O6 w6) := hf6
                have HE6 : Hid (w6.heap[E5]? = some (.cells #[.int .i64 a6, .int .i64 b6, .int .u32 (c6 : Nat)] 37 (0, 0))) := hk6 _ _ _ _ HE5.out (by decide) (by decide) (by decide) (by decide)
                clear HQ hp6 hi6 hf6 hk6 HE5 HI5 HF5 HP5
                obtain ⟨V6, hV6⟩ : ∃ V6, V6 = w6.alloc (.cells #[.int .i64 a6, .int .i64 b6, .int .u32 (c6 : Nat)] 37) := ⟨_, rfl⟩
                have hb7 : Below w6.heap.size w6 V6 := by rw [hV6]; exact (Below.refl _ _).alloc (Nat.le_refl _) _
                have HI7 : Hid (OvI w q s k 20 (j + 1) O6 V6) := HI6.out.below hb7
                have HF7 : Hid (RefI w s p pb b O6 V6) := HF6.out.below hb7
                have hg6 : V6.heap[w6.heap.size]? = some (.cells #[.int .i64 a6, .int .i64 b6, .int .u32 (c6 : Nat)] 37 (0, 0)) := by rw [hV6]; exact heap_alloc_new w6 _
                obtain ⟨⟨p0, p1, p2⟩, -⟩ := cells3' ((hb7.block E5 (lt_of_heap HE6.out)).trans HE6.out)
                obtain ⟨⟨t0, t1, t2⟩, -⟩ := cells3' hg6
                rw [hV6] at p0 p1 p2 t0 t1 t2 HI7 HF7
                clear hV6 hb7 hg6 HI6 HF6 HE6
                go_wp2
                go_meet
                exact ⟨by simp, _, HI7.out, HF7.out⟩
              · have e0 : (kd == 0) = false := by simpa using k0
                by_cases k1 : kd = 1
                · subst k1
                  obtain ⟨D, hD⟩ : ∃ D, D = (dropO O (ah, ap)).2 := ⟨_, rfl⟩
                  obtain ⟨O1, hO1⟩ : ∃ O1, O1 = (dropO O (ah, ap)).1 := ⟨_, rfl⟩
                  have HDP : Hid (∀ W, Below V.heap.size V W → Calls Tryz.prog 10 #[.pointer (some ⟨q, 0, none⟩), .agg #[.int .i64 ah, .int .i64 ap]] W fun e w' => e = .returned (.bool D) ∧ OvI w q s k 20 (j + 1) O1 w' ∧ RefI w s p pb b O w' ∧ w'.heap[A]? = some AC) := fun W hb => ((HIV.out.below hb).drop HT.out (by have := HJ.out; omega) ah ap HKI.out).mono fun e w' ⟨h1, h2, h3⟩ => ⟨by rw [h1, hD], by rw [hO1]; exact h2.more (Nat.le_succ j), (HFV.out.below hb).ov h3, HKT.out _ _ (KeepT.ov h3 (HIV.out.below hb).at_) ((hb.block _ (lt_of_heap HGA.out)).trans HGA.out)⟩
                  have HRP : Hid (∀ W, OvI w q s k 20 (j + 1) O1 W → RefI w s p pb b O W → W.heap[A]? = some AC → Calls Tryz.prog 11 #[.pointer (some ⟨p, 0, none⟩), .agg #[.int .i64 ah, .int .i64 ap]] W fun e w' => e = .returned (.bool D) ∧ OvI w q s k 20 (j + 1) O1 w' ∧ RefI w s p pb b O1 w' ∧ w'.heap[A]? = some AC) := fun W hi hf ha => (hi.refDrop hf HOK.out (by omega) HTL.out ah ap HKI.out).mono fun e w' ⟨h1, h2, h3, h4⟩ => ⟨by rw [h1, hD], h2, by rw [hO1]; exact h3, HKT.out _ _ h4 ha⟩
                  have HC : Hid (∀ w' : World, w'.heap[A]? = some AC → w'.cell? ⟨A, 1, none⟩ = some (.int .i64 ah) ∧ w'.cell? ⟨A, 2, none⟩ = some (.int .i64 ap)) := fun w' h => ⟨(HAC.out _ h).2.1, (HAC.out _ h).2.2.1⟩
                  have HCV : Hid (∀ w', Below V.heap.size V w' → w'.cell? ⟨A, 1, none⟩ = some (.int .i64 ah) ∧ w'.cell? ⟨A, 2, none⟩ = some (.int .i64 ap)) := fun w' h => HC.out _ ((h.block _ (lt_of_heap HGA.out)).trans HGA.out)
                  clear hD hO1 z1 z2 z3
                  go_wp2_with fail
                  go_region_held3 (fun w' => w'.cell? ⟨A, 1, none⟩ = some (.int .i64 ah) ∧ w'.cell? ⟨A, 2, none⟩ = some (.int .i64 ap)) (with_reducible first | exact HC.out _ HA8.out | exact HC.out _ HA7.out | exact HCV.out _ (Below.refl _ _).drew) (first
                    | (go_at_call 11; (with_reducible refine (HRP.out _ HI7.out HF7.out HA7.out).mono ?_); rintro e w8 ⟨rfl, hi8, hf8, ha8⟩; have HI8 : Hid (OvI w q s k 20 (j + 1) O1 w8) := hi8; have HF8 : Hid (RefI w s p pb b O1 w8) := hf8; have HA8 : Hid (w8.heap[A]? = some AC) := ha8; clear hi8 hf8 ha8)
                    | (go_at_call 10; (with_reducible refine (HDP.out _ (Below.refl _ _).drew).mono ?_); rintro e w7 ⟨rfl, hi7, hf7, ha7⟩; have HI7 : Hid (OvI w q s k 20 (j + 1) O1 w7) := hi7; have HF7 : Hid (RefI w s p pb b O w7) := hf7; have HA7 : Hid (w7.heap[A]? = some AC) := ha7; clear hi7 hf7 ha7))
                  all_goals
                    clear HDP HRP HC HCV
                    go_wp2
                    go_meet
                    exact ⟨by simp, _, HI8.out, HF8.out⟩
                · have e1 : (kd == 1) = false := by simpa using k1
                  by_cases k2 : kd = 2
                  · subst k2
                    obtain ⟨D, hD⟩ : ∃ D, D = (sumO O (ah, ap) au).2 := ⟨_, rfl⟩
                    obtain ⟨O1, hO1⟩ : ∃ O1, O1 = (sumO O (ah, ap) au).1 := ⟨_, rfl⟩
                    have HDP : Hid (∀ W, Below V.heap.size V W → Calls Tryz.prog 12 #[.pointer (some ⟨q, 0, none⟩), .agg #[.int .i64 ah, .int .i64 ap], .int .u32 (au : Nat)] W fun e w' => e = .returned (.int .i64 D) ∧ OvI w q s k 20 (j + 1) O1 w' ∧ RefI w s p pb b O w' ∧ w'.heap[A]? = some AC) := fun W hb => ((HIV.out.below hb).sum (by have := HJ.out; omega) ah ap au HKI.out HAU.out).mono fun e w' ⟨h1, h2, h3⟩ => ⟨by rw [h1, hD], by rw [hO1]; exact h2.more (Nat.le_succ j), (HFV.out.below hb).ov h3, HKT.out _ _ (KeepT.ov h3 (HIV.out.below hb).at_) ((hb.block _ (lt_of_heap HGA.out)).trans HGA.out)⟩
                    have HRP : Hid (∀ W, OvI w q s k 20 (j + 1) O1 W → RefI w s p pb b O W → W.heap[A]? = some AC → Calls Tryz.prog 13 #[.pointer (some ⟨p, 0, none⟩), .agg #[.int .i64 ah, .int .i64 ap], .int .u32 (au : Nat)] W fun e w' => e = .returned (.int .i64 D) ∧ OvI w q s k 20 (j + 1) O1 w' ∧ RefI w s p pb b O1 w' ∧ w'.heap[A]? = some AC) := fun W hi hf ha => (hi.refSum hf HOK.out (by omega) HTL.out ah ap au HAU.out).mono fun e w' ⟨h1, h2, h3, h4⟩ => ⟨by rw [h1, hD], h2, by rw [hO1]; exact h3, HKT.out _ _ h4 ha⟩
                    have HC : Hid (∀ w' : World, w'.heap[A]? = some AC → w'.cell? ⟨A, 1, none⟩ = some (.int .i64 ah) ∧ w'.cell? ⟨A, 2, none⟩ = some (.int .i64 ap) ∧ w'.cell? ⟨A, 3, none⟩ = some (.int .u32 (au : Nat))) := fun w' h => ⟨(HAC.out _ h).2.1, (HAC.out _ h).2.2.1, (HAC.out _ h).2.2.2⟩
                    have HCV : Hid (∀ w', Below V.heap.size V w' → w'.cell? ⟨A, 1, none⟩ = some (.int .i64 ah) ∧ w'.cell? ⟨A, 2, none⟩ = some (.int .i64 ap) ∧ w'.cell? ⟨A, 3, none⟩ = some (.int .u32 (au : Nat))) := fun w' h => HC.out _ ((h.block _ (lt_of_heap HGA.out)).trans HGA.out)
                    clear hD hO1 z1 z2 z3
                    go_wp2_with fail
                    go_region_held3 (fun w' => w'.cell? ⟨A, 1, none⟩ = some (.int .i64 ah) ∧ w'.cell? ⟨A, 2, none⟩ = some (.int .i64 ap) ∧ w'.cell? ⟨A, 3, none⟩ = some (.int .u32 (au : Nat))) (with_reducible first | exact HC.out _ HA8.out | exact HC.out _ HA7.out | exact HCV.out _ (Below.refl _ _).drew) (first
                      | (go_at_call 13; (with_reducible refine (HRP.out _ HI7.out HF7.out HA7.out).mono ?_); rintro e w8 ⟨rfl, hi8, hf8, ha8⟩; have HI8 : Hid (OvI w q s k 20 (j + 1) O1 w8) := hi8; have HF8 : Hid (RefI w s p pb b O1 w8) := hf8; have HA8 : Hid (w8.heap[A]? = some AC) := ha8; clear hi8 hf8 ha8)
                      | (go_at_call 12; (with_reducible refine (HDP.out _ (Below.refl _ _).drew).mono ?_); rintro e w7 ⟨rfl, hi7, hf7, ha7⟩; have HI7 : Hid (OvI w q s k 20 (j + 1) O1 w7) := hi7; have HF7 : Hid (RefI w s p pb b O w7) := hf7; have HA7 : Hid (w7.heap[A]? = some AC) := ha7; clear hi7 hf7 ha7))
                    all_goals
                      clear HDP HRP HC HCV
                      go_wp2
                      go_meet
                      exact ⟨by simp, _, HI8.out, HF8.out⟩
                  · have e2 : (kd == 2) = false := by simpa using k2
                    by_cases k3 : kd = 3
                    · subst k3
                      have HP := HIV.out.commit HT.out (by have := HJ.out; omega)
                      go_wp2_with fail
                      refine HP.mono ?_
                      rintro x w5 ⟨rfl, hi5, hs5⟩
                      have HI5 : Hid (OvI w q s k 20 (j + 1) (commitO O) w5) := hi5.more (Nat.le_succ j)
                      have HF5 : Hid (RefI w s p pb b O w5) := HFV.out.ov hs5
                      have HQ := HI5.out.refCommit refSlots12 HF5.out HOK.out (by omega) HTL.out
                      clear hi5 hs5 HP z0 z1 z2 z3 HIV HFV HGA
                      go_wp2_with fail
                      refine HQ.mono ?_
                      rintro x w6 ⟨rfl, hi6, hf6, -⟩
                      have HI6 : Hid (OvI w q s k 20 (j + 1) (commitO O) w6) := hi6
                      have HF6 : Hid (RefI w s p pb b (commitO O) w6) := hf6
                      clear HQ hi6 hf6 HI5 HF5
                      go_wp2
                      go_meet
                      exact ⟨rfl, _, HI6.out, HF6.out⟩
                    · have e3 : (kd == 3) = false := by simpa using k3
                      have HP := HIV.out.get ah ap HKI.out
                      obtain ⟨a5, b5, c5, hx5⟩ : ∃ (a : Int) (c : Int) (d : Nat), entV (getO12 O (ah, ap)) = .agg #[.int .i64 a, .int .i64 c, .int .u32 (d : Nat)] := ⟨_, _, _, rfl⟩
                      obtain ⟨d5, hd5⟩ : ∃ d, (getO12 O (ah, ap)).isSome = d := ⟨_, rfl⟩
                      rw [hx5, hd5] at HP
                      go_wp2_with fail
                      refine HP.mono ?_
                      rintro x w5 ⟨rfl, hb5⟩
                      obtain ⟨V5, hV5⟩ : ∃ V5, V5 = w5.alloc (.cells #[.int .i64 a5, .int .i64 b5, .int .u32 (c5 : Nat)] 37) := ⟨_, rfl⟩
                      have hbv5 : Below w5.heap.size w5 V5 := by rw [hV5]; exact (Below.refl _ _).alloc (Nat.le_refl _) _
                      have hbb : Below V.heap.size V V5 := hb5.trans (hbv5.mono hb5.size)
                      have HE5 : Hid (V5.heap[w5.heap.size]? = some (.cells #[.int .i64 a5, .int .i64 b5, .int .u32 (c5 : Nat)] 37 (0, 0))) := by rw [hV5]; exact heap_alloc_new w5 _
                      have HI5 : Hid (OvI w q s k 20 (j + 1) O V5) := (HIV.out.below hbb).more (Nat.le_succ j)
                      have HF5 : Hid (RefI w s p pb b O V5) := HFV.out.below hbb
                      obtain ⟨z4, z5, z6, z7⟩ := HAC.out _ ((hbb.block _ (lt_of_heap HGA.out)).trans HGA.out)
                      have HQ := HF5.out.get ah ap
                      rw [hx5, hd5] at HQ
                      rw [hV5] at z4 z5 z6 z7
                      clear hb5 hbv5 hbb HP z0 z1 z2 z3 HIV HFV HGA hx5 hd5
                      go_wp2_with fail
                      try rw [← hV5]
                      generalize w5.heap.size = E5 at *
                      clear hV5 z4 z5 z6 z7
                      refine HQ.mono ?_
                      rintro x w6 ⟨rfl, hb6⟩
                      have HI6 : Hid (OvI w q s k 20 (j + 1) O w6) := HI5.out.below hb6
                      have HF6 : Hid (RefI w s p pb b O w6) := HF5.out.below hb6
                      have HE6 : Hid (w6.heap[E5]? = some (.cells #[.int .i64 a5, .int .i64 b5, .int .u32 (c5 : Nat)] 37 (0, 0))) := (hb6.block _ (lt_of_heap HE5.out)).trans HE5.out
                      clear HQ hb6 HE5 HI5 HF5
                      obtain ⟨V6, hV6⟩ : ∃ V6, V6 = w6.alloc (.cells #[.int .i64 a5, .int .i64 b5, .int .u32 (c5 : Nat)] 37) := ⟨_, rfl⟩
                      have hb7 : Below w6.heap.size w6 V6 := by rw [hV6]; exact (Below.refl _ _).alloc (Nat.le_refl _) _
                      have HI7 : Hid (OvI w q s k 20 (j + 1) O V6) := HI6.out.below hb7
                      have HF7 : Hid (RefI w s p pb b O V6) := HF6.out.below hb7
                      have hg6 : V6.heap[w6.heap.size]? = some (.cells #[.int .i64 a5, .int .i64 b5, .int .u32 (c5 : Nat)] 37 (0, 0)) := by rw [hV6]; exact heap_alloc_new w6 _
                      obtain ⟨⟨p0, p1, p2⟩, -⟩ := cells3' ((hb7.block E5 (lt_of_heap HE6.out)).trans HE6.out)
                      obtain ⟨⟨t0, t1, t2⟩, -⟩ := cells3' hg6
                      rw [hV6] at p0 p1 p2 t0 t1 t2 HI7 HF7
                      clear hV6 hb7 hg6 HI6 HF6 HE6
                      go_wp2
                      go_meet
                      exact ⟨by simp, _, HI7.out, HF7.out⟩
            case rest =>
              obtain ⟨rfl, O6, HI6, HF6⟩ := hcut
              clear HIV HFV HGA HKI HAU HOK HTL HAC HKT
              have HSM : Hid (∀ W, Below wc.heap.size wc W → Calls Tryz.prog 18 #[.pointer (some ⟨q, 0, none⟩), .pointer (some ⟨p, 0, none⟩)] W fun e w' => e = .returned (.bool true) ∧ Below wc.heap.size wc w') := fun W hb => (same12_any w W q s k 20 (j + 1) O6 p pb b (HI6.out.below hb) (HF6.out.below hb) (by have := HJ.out; omega)).mono fun e w' ⟨h1, h2⟩ => ⟨h1, hb.trans (h2.mono hb.size)⟩
              go_wp2_with fail
              refine (HSM.out _ (Below.refl _ _)).mono ?_
              rintro x w7 ⟨rfl, hb7⟩
              have HI8 : Hid (OvI w q s k 20 (j + 1) O6 w7) := HI6.out.below hb7
              have HF8 : Hid (RefI w s p pb b O6 w7) := HF6.out.below hb7
              clear hb7 HSM HI6 HF6
              go_wp2
              go_roundw
              case rel => exact ⟨j + 1, O6, by go_num, by omega, HI8.out, HF8.out⟩
              case measure => simp [intOf]; omega
          · have HOK : Hid (OvOk O (281474976710655 + (j : Int))) := hI.out.ok
            have htl := hI.out.tot
            have HLB : Hid (O.base.length ≤ 100 ∧ O.was.length ≤ 100 ∧ O.fresh.length ≤ 100) := by unfold totalO at htl; unfold Hid; omega
            have HMB : Hid (∀ m ∈ O.base, MdI m) := HOK.out.mdB (by omega)
            have HMW : Hid (∀ m ∈ O.was, MdI m) := HOK.out.mdW (by omega)
            have HMF : Hid (∀ m ∈ O.fresh, MdI m) := HOK.out.mdF (by omega)
            have HAL0 : Hid (allO O = applyM O.base O.fresh []) := rfl
            have HCL0 : Hid (committedO O = applyM O.base O.was []) := rfl
            have HKI : Hid (∀ m ∈ allO O, KI m.k) := fun m hm => all_kis HOK.out (by omega) m hm
            have HLA : Hid ((allO O).length ≤ 200) := all_short HOK.out (Nat.le_trans htl (by omega))
            obtain ⟨R, vB, vW, vF, hRR, -⟩ := hF.out
            obtain ⟨aB, lB, cB, eB⟩ : ∃ a l c, vB = .slice a l c := by obtain ⟨a, c, e⟩ := hRR.base.shape; exact ⟨a, _, c, e⟩
            obtain ⟨aW, lW, cW, eW⟩ : ∃ a l c, vW = .slice a l c := by obtain ⟨a, c, e⟩ := hRR.was.shape; exact ⟨a, _, c, e⟩
            obtain ⟨aF, lF, cF, eF⟩ : ∃ a l c, vF = .slice a l c := by obtain ⟨a, c, e⟩ := hRR.fresh.shape; exact ⟨a, _, c, e⟩
            subst eB eW eF
            have HRV : Hid (R12 wr R p pb b (.slice aB lB cB) (.slice aW lW cW) (.slice aF lF cF) O) := hRR
            have HAP : Hid (∀ W, Below wr.heap.size wr W → Calls Tryz.prog 19 #[.slice aB lB cB, .slice aF lF cF, .slice none 0 0] W fun e w' => ∃ u, e = .returned u ∧ Els encM 5 w' u (allO O) ∧ Below wr.heap.size wr w') := fun W hb => (refApply11_any W _ _ _ O.base O.fresh [] (HRV.out.below hb).base (HRV.out.below hb).fresh (Keys.nil _) HLB.out.1 HLB.out.2.2 HMB.out HMF.out).mono fun e w' ⟨u, h1, h2, h3⟩ => ⟨u, h1, h2, hb.trans (h3.mono hb.size)⟩
            have HC3 : Hid (∀ w', Below wr.heap.size wr w' → w'.cell? ⟨p, 1, none⟩ = some (.slice aB lB cB) ∧ w'.cell? ⟨p, 3, none⟩ = some (.slice aF lF cF)) := fun w' hb => ⟨(HRV.out.below hb).cells.2.1, (HRV.out.below hb).cells.2.2.2⟩
            clear hRR htl hF
            go_wp2_with fail
            go_region_held3 (fun w' => w'.cell? ⟨p, 1, none⟩ = some (.slice aB lB cB) ∧ w'.cell? ⟨p, 3, none⟩ = some (.slice aF lF cF)) (with_reducible first | exact HC3.out _ HB7.out | exact HC3.out _ (Below.refl _ _).drew) (first
              | (go_at_call 19; (with_reducible refine (HAP.out _ (Below.refl _ _).drew).mono ?_); rintro e w7 ⟨u7, rfl, hu7, hb7⟩
                 have HB7 : Hid (Below wr.heap.size wr w7) := hb7
                 have HU7 : Hid (Els encM 5 w7 u7 (allO O)) := hu7
                 clear hu7 hb7))
            all_goals
              obtain ⟨LA, hLA⟩ : ∃ LA, allO O = LA := ⟨_, rfl⟩
              obtain ⟨LC, hLC⟩ : ∃ LC, committedO O = LC := ⟨_, rfl⟩
              obtain ⟨a7, c7, e7⟩ := HU7.out.shape
              obtain ⟨n7, hn7⟩ : ∃ n7, n7 = (allO O).length := ⟨_, rfl⟩
              rw [← hn7] at e7 HLA
              have HN7 : Hid (n7 = LA.length) := by rw [← hLA]; exact hn7
              have HI7 : Hid (OvI w q s k 20 j O w7) := hI.out.below HB7.out
              have HR7 : Hid (R12 w7 R p pb b (.slice aB lB cB) (.slice aW lW cW) (.slice aF lF cF) O) := HRV.out.below HB7.out
              subst e7
              have HAL : Hid (∀ W, Below w7.heap.size w7 W → Calls Tryz.prog 21 #[.pointer (some ⟨q, 0, none⟩)] W fun e w' => ∃ u, e = .returned u ∧ Els encM 5 w' u LA ∧ Below w7.heap.size w7 w') := fun W hb => ((HI7.out.below hb).all (by omega)).mono fun e w' ⟨u, h1, h2, h3, _⟩ => ⟨u, h1, by rw [← hLA]; exact h2, hb.trans (h3.mono hb.size)⟩
              have HSA : Hid (∀ W u, Below w7.heap.size w7 W → Els encM 5 W u LA → Calls Tryz.prog 20 #[u, .slice a7 n7 c7] W fun e w' => e = .returned (.bool true) ∧ Below w7.heap.size w7 w') := fun W u hb hu => (same11_any W u _ LA hu (by rw [← hLA]; exact HU7.out.kept hb)).mono fun e w' ⟨h1, m, h2⟩ => ⟨h1, by rw [h2]; exact hb.trans ((drewN_below W m).mono hb.size)⟩
              have HCO : Hid (∀ W, Below w7.heap.size w7 W → Calls Tryz.prog 22 #[.pointer (some ⟨q, 0, none⟩)] W fun e w' => ∃ u, e = .returned u ∧ Els encM 5 w' u LC ∧ Below w7.heap.size w7 w') := fun W hb => ((HI7.out.below hb).committed (by omega)).mono fun e w' ⟨u, h1, h2, h3, _⟩ => ⟨u, h1, by rw [← hLC]; exact h2, hb.trans (h3.mono hb.size)⟩
              have HAQ : Hid (∀ W v, Below w7.heap.size w7 W → Els encM 5 W v LC → Calls Tryz.prog 19 #[.slice aB lB cB, .slice aW lW cW, .slice none 0 0] W fun e w' => ∃ u, e = .returned u ∧ (Els encM 5 w' u LC ∧ Els encM 5 w' v LC) ∧ Below w7.heap.size w7 w') := fun W v hb hv => (refApply11_any W _ _ _ O.base O.was [] (HR7.out.below hb).base (HR7.out.below hb).was (Keys.nil _) HLB.out.1 HLB.out.2.1 HMB.out HMW.out).mono fun e w' ⟨u, h1, h2, h3⟩ => ⟨u, h1, ⟨by rw [← hLC]; exact h2, hv.kept h3⟩, hb.trans (h3.mono hb.size)⟩
              have HSC : Hid (∀ W u v, Below w7.heap.size w7 W → Els encM 5 W u LC ∧ Els encM 5 W v LC → Calls Tryz.prog 20 #[v, u] W fun e w' => e = .returned (.bool true) ∧ Below w7.heap.size w7 w') := fun W u v hb hu => (same11_any W v u LC hu.2 hu.1).mono fun e w' ⟨h1, m, h2⟩ => ⟨h1, by rw [h2]; exact hb.trans ((drewN_below W m).mono hb.size)⟩
              have HC4 : Hid (∀ w', Below w7.heap.size w7 w' → w'.cell? ⟨p, 1, none⟩ = some (.slice aB lB cB) ∧ w'.cell? ⟨p, 2, none⟩ = some (.slice aW lW cW)) := fun w' hb => ⟨(HR7.out.below hb).cells.2.1, (HR7.out.below hb).cells.2.2.1⟩
              have HU7' : Hid (Els encM 5 w7 (.slice a7 n7 c7) LA) := by rw [← hLA]; exact HU7.out
              rw [hLA] at HKI
              have HWK : Hid (wantK (wantH 1) (allO O) = keyT LA n7) := by rw [hLA]; exact (keyT_all HN7.out).symm
              have HKY : Hid (∀ W, Below w7.heap.size w7 W → Calls Tryz.prog 24 #[.pointer (some ⟨q, 0, none⟩), .int .i64 1] W fun e w' => ∃ u, e = .returned u ∧ Keys w' u (keyT LA n7) ∧ Below W.heap.size W w') := fun W hb => by rw [← HWK.out]; exact keys12_any W q s O _ 1 (HI7.out.below hb).at_ ((HI7.out.below hb).small (by omega)) (HI7.out.below hb).ok
              have HBW : Hid (Below w.heap.size w w7) := HI7.out.bel
              clear HAP HC3 HRV HB7 HU7 hI HAL0 HCL0 hLA hLC hn7 HWK HOK HLB HMB HMW HMF HR7 HI7
              go_wp2_with fail
              go_region_held3 (fun w' => w'.cell? ⟨p, 1, none⟩ = some (.slice aB lB cB) ∧ w'.cell? ⟨p, 2, none⟩ = some (.slice aW lW cW)) (with_reducible first | exact HC4.out _ HB12.out | exact HC4.out _ HB11.out | exact HC4.out _ HB10.out | exact HC4.out _ HB9.out | exact HC4.out _ HB8.out | exact HC4.out _ (Below.refl _ _).drew) (first
                | (go_at_call 20; (with_reducible refine (HSC.out _ _ _ HB11.out HU11.out).mono ?_); rintro e w12 ⟨rfl, hb12⟩; have HB12 : Hid (Below w7.heap.size w7 w12) := hb12; clear hb12)
                | (go_at_call 19; (with_reducible refine (HAQ.out _ _ HB10.out HU10.out).mono ?_); rintro e w11 ⟨u11, rfl, hu11, hb11⟩; have HB11 : Hid (Below w7.heap.size w7 w11) := hb11; have HU11 : Hid (Els encM 5 w11 u11 LC ∧ Els encM 5 w11 u10 LC) := hu11; clear hb11 hu11)
                | (go_at_call 22; (with_reducible refine (HCO.out _ HB9.out).mono ?_); rintro e w10 ⟨u10, rfl, hu10, hb10⟩; have HB10 : Hid (Below w7.heap.size w7 w10) := hb10; have HU10 : Hid (Els encM 5 w10 u10 LC) := hu10; clear hb10 hu10)
                | (go_at_call 20; (with_reducible refine (HSA.out _ _ HB8.out HU8.out).mono ?_); rintro e w9 ⟨rfl, hb9⟩; have HB9 : Hid (Below w7.heap.size w7 w9) := hb9; clear hb9)
                | (go_at_call 21; (with_reducible refine (HAL.out _ (Below.refl _ _).drew).mono ?_); rintro e w8 ⟨u8, rfl, hu8, hb8⟩; have HB8 : Hid (Below w7.heap.size w7 w8) := hb8; have HU8 : Hid (Els encM 5 w8 u8 LA) := hu8; clear hb8 hu8))
              all_goals
                have HUE : Hid (Els encM 5 w12 (.slice a7 n7 c7) LA) := HU7'.out.kept HB12.out
                have HBF : Hid (Below w.heap.size w w12) := HBW.out.trans (HB12.out.mono HBW.out.size)
                have HKZ : Hid (∀ W, Below w12.heap.size w12 W → Calls Tryz.prog 24 #[.pointer (some ⟨q, 0, none⟩), .int .i64 1] W fun e w' => ∃ u, e = .returned u ∧ Keys w' u (keyT LA n7) ∧ Below W.heap.size W w') := fun W hb => HKY.out W (HB12.out.trans (hb.mono HB12.out.size))
                obtain ⟨i0, hi, hz0, hz1, hz2⟩ := info_k
                clear HB8 HB9 HB10 HB11 HB12 HU8 HU10 HU11 HAL HSA HCO HAQ HSC HC4 HU7' HKY HBW
                go_wp2_with fail
                have hn7b : n7 ≤ 200 := HLA.out
                go_loopw [22, 23] (fun v i wx => ∃ y : Nat, i = .int .i64 (y : Nat) ∧ y ≤ n7 ∧ Hid (wx.ownsRow w12.heap.size 32 2 v (keyT LA y).length (kcells (keyT LA y))) ∧ Hid (Below w12.heap.size w12 wx)) (fun _ i _ => n7 - (intOf i).toNat)
                case atStart => exact ⟨0, rfl, Nat.zero_le _, World.ownsRow_nil _ _ _ _, Below.refl _ _⟩
                case round =>
                  obtain ⟨y, rfl, hy, HRO, HBx⟩ := hrel
                  by_cases hyl : y < n7
                  · obtain ⟨gb, go, rfl, hgb, hc⟩ := (HUE.out.kept HBx.out).md (by omega)
                    obtain ⟨mh, mp, ms, mg, mu, hkk⟩ := md_at (xs := LA) (j := y) (by rw [← HN7.out]; exact hyl)
                    obtain ⟨d0, d1, -, -, -⟩ := hc y _ hkk
                    simp only at d0 d1
                    have HKm : Hid (KI (mh, mp)) := HKI.out _ (List.mem_of_getElem? hkk)
                    have HST : Hid (keyT LA (y + 1) = keyT LA y ++ (if wantH 1 (mh, mp) then [(mh, mp)] else [])) := keyT_step hkk
                    have HGL : Hid ((keyT LA y).length ≤ 1000) := by have := keyT_len LA y; have := HLA.out; unfold Hid; omega
                    clear hc hgb hkk
                    generalize keyT LA y = S at *
                    obtain ⟨S1, hS1⟩ : ∃ S1, keyT LA (y + 1) = S1 := ⟨_, rfl⟩
                    rw [hS1] at HST
                    have HS1 : Hid (keyT LA (y + 1) = S1) := hS1
                    clear hS1
                    by_cases h1 : mh = 1
                    · subst h1
                      have HE : Hid (S ++ [((1 : Int), mp)] = S1) := by unfold Hid; rw [HST.out]; simp [wantH]
                      have HK1 : Hid (Keys (wr.alloc (.cells #[.int .i64 1, .int .i64 mp] 32)) (.slice (some ⟨wr.heap.size, 0, none⟩) 1 1) [((1 : Int), mp)]) := Keys.one (k := ((1 : Int), mp)) HKm.out
                      go_wp2_with (first
                        | (at_builtin; refine wpList_append_keys _ rfl _ _ 54 (by rfl) w12.heap.size 32 i0 Tryz.underlying54 hi hz0 hz1 hz2 u22 S.length S (by rfl) (HRO.out.alloc _) (.slice (some ⟨wr.heap.size, 0, none⟩) 1 1) [((1 : Int), mp)] (by rfl) HK1.out (by have := HGL.out; simp only [List.length_singleton]; omega) (by have := HBx.out.size; simp; omega) ?_; intro v8 w8 hown8 hg8 hat8; have HO8 : Hid (w8.ownsRow w12.heap.size 32 2 v8 S1.length (kcells S1)) := (by have h9 := hown8; rw [HE.out] at h9; rw [← HE.out, List.length_append, HE.out]; exact h9); have HB8 : Hid (Below w12.heap.size w12 w8) := (HBx.out.alloc HBx.out.size _).grown hg8 (by have := HBx.out.size; simp; omega) (fun i hi => (HRO.out.lt i hi).1); clear hown8 hg8 hat8)
                        | go_in)
                      go_roundw
                      case rel => exact ⟨y + 1, by go_num, by omega, by rw [HS1.out]; exact HO8.out, HB8.out⟩
                      case measure => simp [intOf]; omega
                    · have HE : Hid (S1 = S) := by unfold Hid; rw [HST.out]; simp [wantH, h1]
                      have hm1 : (mh == 1) = false := by simpa using h1
                      go_wp2
                      go_roundw
                      case rel => exact ⟨y + 1, by go_num, by omega, by rw [HS1.out, HE.out]; exact HRO.out, HBx.out⟩
                      case measure => simp [intOf]; omega
                  · obtain rfl : y = n7 := by omega
                    have HKS : Hid (Keys wr u22 (keyT LA y)) := Keys.ofOwn HRO.out fun x hx => keyT_ki HKI.out hx
                    have HKC := HKZ.out wr HBx.out
                    clear HRO HKZ
                    go_wp2_with fail
                    refine HKC.mono ?_
                    rintro e w14 ⟨u14, rfl, hk14, hb14⟩
                    have HB14 : Hid (Below w.heap.size w w14) := HBF.out.trans ((HBx.out.trans (hb14.mono HBx.out.size)).mono HBF.out.size)
                    have HSS := keySame_any w14 u14 u22 _ _ hk14 (HKS.out.kept hb14)
                    rw [sameK_self] at HSS
                    clear hk14 hb14 HKC HBx HBF
                    go_wp2_with fail
                    refine HSS.mono ?_
                    rintro e w15 ⟨rfl, y15, rfl⟩
                    have HB15 : Hid (Below w.heap.size w (w14.drewN y15)) := HB14.out.trans ((drewN_below w14 y15).mono HB14.out.size)
                    generalize w14.drewN y15 = w15 at *
                    clear HSS
                    go_wp2
                    go_ret
                    exact ⟨rfl, HB15.out⟩
    · have HB2 : Hid (Below w.heap.size w w2) := HB1.out.trans (hb2.mono HB1.out.size)
      have HNR : Hid (Calls Tryz.prog 7 #[.int .i64 n, .slice a1 len1 cap1] w2 fun x w' => x = .returned (.pointer none) ∧ Below w2.heap.size w2 w') := by
        by_cases hr : 1 ≤ n ∧ n ≤ 65536
        · refine refNew12_bad w2 n _ cm (HC.out.kept HB2.out) (by have := HCL.out; omega) hr.1 hr.2 ?_
          cases hrm : rightM n cm with
          | false => rfl
          | true => exact absurd ⟨hr.1, hr.2, hrm⟩ hno
        · exact (refNew12_off w2 n _ (by omega)).mono fun x w' ⟨h1, h2⟩ => ⟨h1, by rw [h2]; exact Below.refl _ _⟩
      clear hb2 hno HB1 HC HCM HCL HOLD HN hn
      go_wp2_with fail
      refine HNR.out.mono ?_
      rintro e w3 ⟨rfl, hb3⟩
      have HB3 : Hid (Below w.heap.size w w3) := HB2.out.trans (hb3.mono HB2.out.size)
      clear hb3 HNR HB2
      go_wp2
      go_ret
      exact ⟨rfl, HB3.out⟩
end Go.Proofs.YtjhkcdnfnmglhaaGreatDoor
