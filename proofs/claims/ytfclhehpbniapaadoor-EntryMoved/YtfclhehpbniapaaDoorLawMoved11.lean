/- The walk of the law 'EntryMoved': it returns true for every input, where the program's tables lie as they were laid; over a bundle of contracts. -/
import Derived.Test.YtfclhehpbniapaaDoorBundle11
import Derived.Test.YtfclhehpbniapaaDoorStrOct
import Derived.Lib.QuietBelow
namespace Go.Proofs.YtfclhehpbniapaaDoor
open Go.RowKit
set_option linter.unusedVariables false

theorem Tryd.mixed11d : Tryd.prog.follows .mixedOrders = true := by kernel_rfl
theorem alloc_old {w : World} {o : Obj} {p : Addr} {v : Value} (h : w.cell? p = some v) : (w.alloc o).cell? p = some v :=
  (((Below.refl _ _).alloc (Nat.le_refl _) o).cell (block_lt_of_cell h)).trans h

set_option maxRecDepth 20000 in
set_option maxHeartbeats 4000000 in
theorem moved11_main (E : EntryD) (ah ap bh bp g0 g1 : Int) (i1 : I64 ah) (i2 : I64 ap) (i3 : I64 bh) (i4 : I64 bp) (i5 : I64 g0) (i6 : I64 g1) (w : World) (ht : Steps w) :
    Calls Tryd.prog 4 #[.agg #[.int .i64 ah, .int .i64 ap], .agg #[.int .i64 bh, .int .i64 bp], .agg #[.int .i64 g0, .int .i64 g1]] w fun e w' => e = .returned (.bool true) ∧ Below w.heap.size w w' := by
  have HT : Hid (Steps w) := ht
  have HI : Hid (I64 ah ∧ I64 ap ∧ I64 bh ∧ I64 bp ∧ I64 g0 ∧ I64 g1) := ⟨i1, i2, i3, i4, i5, i6⟩
  clear ht i1 i2 i3 i4 i5 i6
  go_enter Tryd.func4, Tryd.ntmps4
  go_wp2_with fail
  obtain ⟨W0, hW⟩ : ∃ W0, W0 = ((w.alloc (.cells #[.int .i64 ah, .int .i64 ap] 23)).alloc (.cells #[.int .i64 bh, .int .i64 bp] 23)).alloc (.cells #[.int .i64 g0, .int .i64 g1] 29) := ⟨_, rfl⟩
  have hs1 : (w.alloc (.cells #[.int .i64 ah, .int .i64 ap] 23)).heap.size = w.heap.size + 1 := by simp
  have hs2 : ((w.alloc (.cells #[.int .i64 ah, .int .i64 ap] 23)).alloc (.cells #[.int .i64 bh, .int .i64 bp] 23)).heap.size = w.heap.size + 1 + 1 := by simp
  have d0 : W0.cell? ⟨w.heap.size, 0, none⟩ = some (.int .i64 ah) := by rw [hW]; exact alloc_old (alloc_old (cell_new w _ _ _ 0))
  have d1 : W0.cell? ⟨w.heap.size, 1, none⟩ = some (.int .i64 ap) := by rw [hW]; exact alloc_old (alloc_old (cell_new w _ _ _ 1))
  have d2 : W0.cell? ⟨w.heap.size + 1, 0, none⟩ = some (.int .i64 bh) := by rw [hW, ← hs1]; exact alloc_old (cell_new _ _ _ _ 0)
  have d3 : W0.cell? ⟨w.heap.size + 1, 1, none⟩ = some (.int .i64 bp) := by rw [hW, ← hs1]; exact alloc_old (cell_new _ _ _ _ 1)
  have d4 : W0.cell? ⟨w.heap.size + 1 + 1, 0, none⟩ = some (.int .i64 g0) := by rw [hW, ← hs2]; exact cell_new _ _ _ _ 0
  have d5 : W0.cell? ⟨w.heap.size + 1 + 1, 1, none⟩ = some (.int .i64 g1) := by rw [hW, ← hs2]; exact cell_new _ _ _ _ 1
  clear hs1 hs2
  have HB0 : Hid (Below w.heap.size w W0) := by rw [hW]; exact (((Below.refl _ _).alloc (Nat.le_refl _) _).alloc (by simp) _).alloc (by simp; omega) _
  rw [← hW]
  have HK : Hid (∀ W, Below W0.heap.size W0 W → W.cell? ⟨w.heap.size, 0, none⟩ = some (.int .i64 ah) ∧ W.cell? ⟨w.heap.size, 1, none⟩ = some (.int .i64 ap) ∧ W.cell? ⟨w.heap.size + 1, 0, none⟩ = some (.int .i64 bh) ∧ W.cell? ⟨w.heap.size + 1, 1, none⟩ = some (.int .i64 bp) ∧ W.cell? ⟨w.heap.size + 1 + 1, 0, none⟩ = some (.int .i64 g0) ∧ W.cell? ⟨w.heap.size + 1 + 1, 1, none⟩ = some (.int .i64 g1)) := fun W hB =>
    ⟨(hB.cell (block_lt_of_cell d0)).trans d0, (hB.cell (block_lt_of_cell d1)).trans d1, (hB.cell (block_lt_of_cell d2)).trans d2, (hB.cell (block_lt_of_cell d3)).trans d3, (hB.cell (block_lt_of_cell d4)).trans d4, (hB.cell (block_lt_of_cell d5)).trans d5⟩
  have HTW : Hid (∀ W, Below W0.heap.size W0 W → Steps W) := fun W hB => HT.out.below (HB0.out.trans (hB.mono HB0.out.size))
  have HFW : Hid (∀ W, Below W0.heap.size W0 W → Below w.heap.size w W) := fun W hB => HB0.out.trans (hB.mono HB0.out.size)
  clear hW d0 d1 d2 d3 d4 d5 HB0 HT
  refine (E.awake _ (HTW.out _ (Below.refl _ _))).mono ?_
  rintro e w1 ⟨rfl, hb1⟩
  have HB1 : Hid (Below W0.heap.size W0 w1) := hb1
  obtain ⟨c0, c1, c2, c3, c4, c5⟩ := HK.out w1 hb1
  clear hb1
  obtain ⟨RA, hRA⟩ : ∃ RA, isR (ah, ap) = RA := ⟨_, rfl⟩
  obtain ⟨RB, hRB⟩ : ∃ RB, isR (bh, bp) = RB := ⟨_, rfl⟩
  have HRA : Hid (isR (ah, ap) = RA) := hRA
  have HRB : Hid (isR (bh, bp) = RB) := hRB
  clear hRA hRB
  go_wp2_with fail
  refine (refRight_any ah ap _).mono ?_
  rintro e w2 ⟨rfl, hb2⟩
  rw [HRA.out]
  have HB2 : Hid (Below W0.heap.size W0 w2) := HB1.out.trans (hb2.mono HB1.out.size)
  clear hb2 HB1 c0 c1 c2 c3 c4 c5
  obtain ⟨c0, c1, c2, c3, c4, c5⟩ := HK.out w2 HB2.out
  cases RA
  · go_wp2_with fail
    refine (E.awake _ (HTW.out _ HB2.out)).mono ?_
    rintro e w9 ⟨rfl, hb9⟩
    have HB9 : Hid (Below w.heap.size w w9) := HFW.out _ (HB2.out.trans (hb9.mono HB2.out.size))
    clear hb9
    go_wp2
    go_ret
    exact ⟨rfl, HB9.out⟩
  · go_wp2_with fail
    refine (refRight_any bh bp _).mono ?_
    rintro e w3 ⟨rfl, hb3⟩
    rw [HRB.out]
    have HB3 : Hid (Below W0.heap.size W0 w3) := HB2.out.trans (hb3.mono HB2.out.size)
    clear hb3 HB2 c0 c1 c2 c3 c4 c5
    cases RB
    · go_wp2_with fail
      refine (E.awake _ (HTW.out _ HB3.out)).mono ?_
      rintro e w9 ⟨rfl, hb9⟩
      have HB9 : Hid (Below w.heap.size w w9) := HFW.out _ (HB3.out.trans (hb9.mono HB3.out.size))
      clear hb9
      go_wp2
      go_ret
      exact ⟨rfl, HB9.out⟩
    · have HS3 : Hid (W0.heap.size ≤ w3.heap.size) := HB3.out.size
      have hmk : (Instr.makeSlice 24 (.int .i64 512) (.int .i64 512)).run Tryd.prog w3 = .ok (.slice (some ⟨w3.heap.size, 0, none⟩) 512 512) (w3.alloc (.cells (u8s (zl 512)).toArray 5)) := Tryd.make5 512 (by decide) w3
      have HPG : Hid (Octs (w3.alloc (.cells (u8s (zl 512)).toArray 5)) (.slice (some ⟨w3.heap.size, 0, none⟩) 512 512) (zl 512)) := octs_new w3 (zl 512) 5 (zl_small _) (by rw [zl_length]; decide)
      have HB4 : Hid (Below W0.heap.size W0 (w3.alloc (.cells (u8s (zl 512)).toArray 5))) := HB3.out.alloc HS3.out _
      obtain ⟨W4, hW4⟩ : ∃ W4, W4 = w3.alloc (.cells (u8s (zl 512)).toArray 5) := ⟨_, rfl⟩
      rw [← hW4] at hmk HPG HB4
      clear hW4 HB3 HS3
      generalize w3.heap.size = X at *
      have HL : Hid ((zl 512).length ≤ 700) := by unfold Hid; rw [zl_length]; decide
      have HZS : Hid (∀ z ∈ zl 512, z < 256) := zl_small _
      generalize zl 512 = pg at *
      have HPW : Hid (∀ W, Below W4.heap.size W4 W → Octs W (.slice (some ⟨X, 0, none⟩) 512 512) pg) := fun W hB => HPG.out.kept hB
      have HKW : Hid (∀ W, Below W4.heap.size W4 W → Below W0.heap.size W0 W) := fun W hB => HB4.out.trans (hB.mono HB4.out.size)
      have HSA : Hid (∀ W, Below W4.heap.size W4 W → Calls Tryd.prog 6 #[.agg #[.int .i64 ah, .int .i64 ap], .int .i64 g0, .slice (some ⟨X, 0, none⟩) 512 512] W fun e w' => e = .returned (.int .u32 (sum11 (ah, ap) g0 pg : Nat)) ∧ Below W.heap.size W w') := fun W hB => E.sum W ah ap g0 _ pg HI.out.1 HI.out.2.1 HI.out.2.2.2.2.1 (HTW.out _ (HKW.out _ hB)) (HPW.out _ hB) HL.out
      have HSB : Hid (∀ W, Below W4.heap.size W4 W → Calls Tryd.prog 6 #[.agg #[.int .i64 bh, .int .i64 bp], .int .i64 g1, .slice (some ⟨X, 0, none⟩) 512 512] W fun e w' => e = .returned (.int .u32 (sum11 (bh, bp) g1 pg : Nat)) ∧ Below W.heap.size W w') := fun W hB => E.sum W bh bp g1 _ pg HI.out.2.2.1 HI.out.2.2.2.1 HI.out.2.2.2.2.2 (HTW.out _ (HKW.out _ hB)) (HPW.out _ hB) HL.out
      have HLA : Hid (sum11 (ah, ap) g0 pg < 4294967296 ∧ sum11 (bh, bp) g1 pg < 4294967296) := ⟨sum11_lt HZS.out, sum11_lt HZS.out⟩
      have HRSA : Hid (∀ W, Below W4.heap.size W4 W → Calls Tryd.prog 7 #[.agg #[.int .i64 ah, .int .i64 ap], .int .i64 g0, .slice (some ⟨X, 0, none⟩) 512 512] W fun e w' => e = .returned (.int .u32 (sum11 (ah, ap) g0 pg : Nat)) ∧ Below W.heap.size W w') := fun W hB => refSum11_any W ah ap g0 _ pg (HPW.out _ hB)
      have HRSB : Hid (∀ W, Below W4.heap.size W4 W → Calls Tryd.prog 7 #[.agg #[.int .i64 bh, .int .i64 bp], .int .i64 g1, .slice (some ⟨X, 0, none⟩) 512 512] W fun e w' => e = .returned (.int .u32 (sum11 (bh, bp) g1 pg : Nat)) ∧ Below W.heap.size W w') := fun W hB => refSum11_any W bh bp g1 _ pg (HPW.out _ hB)
      have HMV : Hid (g0 = g1 → sum11 (ah, ap) g0 pg = sum11 (bh, bp) g1 pg → ((ah, ap) : Ky) = (bh, bp)) := fun e1 e2 => by subst e1; exact sum11_moved HZS.out HRA.out HRB.out e2
      have HSM : Hid (g0 = g1 → ah = bh → ap = bp → sum11 (ah, ap) g0 pg = sum11 (bh, bp) g1 pg) := fun e1 e2 e3 => by subst e1 e2 e3; rfl
      generalize sum11 (ah, ap) g0 pg = SA at *
      generalize sum11 (bh, bp) g1 pg = SB at *
      clear HPG HB4 HPW HRA HRB HTW HI HZS HL
      obtain ⟨c0, c1, c2, c3, c4, c5⟩ := HK.out _ (HKW.out _ (Below.refl _ _))
      have p0 := cell_regrown c0
      have p1 := cell_regrown c1
      have p2 := cell_regrown c2
      have p3 := cell_regrown c3
      have p4 := cell_regrown c4
      have p5 := cell_regrown c5
      go_wp2_with fail
      have cA : ∀ d os, Calls Tryd.prog 6 #[.agg #[.int .i64 ah, .int .i64 ap], .int .i64 g0, .slice (some ⟨X, 0, none⟩) 512 512] (Sort.grow (redrawn W4 d) os) fun e w'' => e = .returned (.int .u32 (SA : Nat)) ∧ ∃ p : Regrown, w'' = Sort.grow (redrawn W4 p.d) p.os := fun d os => Calls.regrown_of (HSA.out _ ((below_regrown W4 d os)))
      have cB : ∀ d os, Calls Tryd.prog 6 #[.agg #[.int .i64 bh, .int .i64 bp], .int .i64 g1, .slice (some ⟨X, 0, none⟩) 512 512] (Sort.grow (redrawn W4 d) os) fun e w'' => e = .returned (.int .u32 (SB : Nat)) ∧ ∃ p : Regrown, w'' = Sort.grow (redrawn W4 p.d) p.os := fun d os => Calls.regrown_of (HSB.out _ ((below_regrown W4 d os)))
      refine wp_region_quiet_below Tryd.mixed11d (by kernel_rfl) ?_
      repeat (quiet_step (first | (go_at_call 6; first | with_reducible exact cA _ _ | with_reducible exact cB _ _)))
      refine wpQuiet_nil ?_
      intro _ hw'
      obtain ⟨⟨dq, osq⟩, hw''⟩ := hw'
      subst hw''
      dsimp only
      have HB5 : Hid (Below W4.heap.size W4 (Sort.grow (redrawn W4 dq) osq)) := below_regrown W4 dq osq
      have q0 := p0 dq osq
      have q1 := p1 dq osq
      have q2 := p2 dq osq
      have q3 := p3 dq osq
      have q4 := p4 dq osq
      have q5 := p5 dq osq
      generalize Sort.grow (redrawn W4 dq) osq = W5 at *
      clear p0 p1 p2 p3 p4 p5 cA cB c0 c1 c2 c3 c4 c5 HSA HSB
      have HB6 : Hid (Below w.heap.size w W5) := HFW.out _ (HKW.out _ HB5.out)
      have u1 := HLA.out.1
      have u2 := HLA.out.2
      by_cases eg : g0 = g1
      · by_cases eh : ah = bh
        · by_cases ep : ap = bp
          · have HE : Hid (SA = SB) := HSM.out eg eh ep
            clear HSM HMV HRSA HRSB
            subst eg eh ep
            go_wp2_with fail
            go_ret
            exact ⟨ret_bool (by rw [HE.out]; simp), HB6.out⟩
          · have HE : Hid (SA ≠ SB) := fun e => ep (Prod.mk.inj (HMV.out eg e)).2
            have ep2 : (ap == bp) = false := by simpa using ep
            clear HSM HMV HRSA HRSB
            subst eg eh
            go_wp2_with fail
            go_ret
            exact ⟨ret_bool (by have := HE.out; simp; omega), HB6.out⟩
        · have eh2 : (ah == bh) = false := by simpa using eh
          clear HB6 HSM HMV
          subst eg
          go_wp2_with fail
          have r0 := cell_regrown q0
          have r1 := cell_regrown q1
          have r2 := cell_regrown q2
          have r3 := cell_regrown q3
          have r4 := cell_regrown q4
          have r5 := cell_regrown q5
          have tA : ∀ d os, Calls Tryd.prog 7 #[.agg #[.int .i64 ah, .int .i64 ap], .int .i64 g0, .slice (some ⟨X, 0, none⟩) 512 512] (Sort.grow (redrawn W5 d) os) fun e w'' => e = .returned (.int .u32 (SA : Nat)) ∧ ∃ p : Regrown, w'' = Sort.grow (redrawn W5 p.d) p.os := fun d os => Calls.regrown_of (HRSA.out _ (HB5.out.trans ((below_regrown W5 d os).mono HB5.out.size)))
          have tB : ∀ d os, Calls Tryd.prog 7 #[.agg #[.int .i64 bh, .int .i64 bp], .int .i64 g0, .slice (some ⟨X, 0, none⟩) 512 512] (Sort.grow (redrawn W5 d) os) fun e w'' => e = .returned (.int .u32 (SB : Nat)) ∧ ∃ p : Regrown, w'' = Sort.grow (redrawn W5 p.d) p.os := fun d os => Calls.regrown_of (HRSB.out _ (HB5.out.trans ((below_regrown W5 d os).mono HB5.out.size)))
          refine wp_region_quiet_below Tryd.mixed11d (by kernel_rfl) ?_
          repeat (quiet_step (first | (go_at_call 7; first | with_reducible exact tA _ _ | with_reducible exact tB _ _)))
          refine wpQuiet_nil ?_
          intro _ hw'
          obtain ⟨⟨dq, osq⟩, hw''⟩ := hw'
          subst hw''
          dsimp only
          have HB6 : Hid (Below w.heap.size w (Sort.grow (redrawn W5 dq) osq)) := HFW.out _ (HKW.out _ (HB5.out.trans ((below_regrown W5 dq osq).mono HB5.out.size)))
          generalize Sort.grow (redrawn W5 dq) osq = W6 at *
          clear tA tB r0 r1 r2 r3 r4 r5 q0 q1 q2 q3 q4 q5
          go_wp2_with fail
          go_ret
          exact ⟨ret_bool (by simp), HB6.out⟩
      · have eg2 : (g0 == g1) = false := by simpa using eg
        clear HB6 HSM HMV
        by_cases eh : ah = bh
        · by_cases ep : ap = bp
          · subst eh ep
            go_wp2_with fail
            have r0 := cell_regrown q0
            have r1 := cell_regrown q1
            have r2 := cell_regrown q2
            have r3 := cell_regrown q3
            have r4 := cell_regrown q4
            have r5 := cell_regrown q5
            have tA : ∀ d os, Calls Tryd.prog 7 #[.agg #[.int .i64 ah, .int .i64 ap], .int .i64 g0, .slice (some ⟨X, 0, none⟩) 512 512] (Sort.grow (redrawn W5 d) os) fun e w'' => e = .returned (.int .u32 (SA : Nat)) ∧ ∃ p : Regrown, w'' = Sort.grow (redrawn W5 p.d) p.os := fun d os => Calls.regrown_of (HRSA.out _ (HB5.out.trans ((below_regrown W5 d os).mono HB5.out.size)))
            have tB : ∀ d os, Calls Tryd.prog 7 #[.agg #[.int .i64 ah, .int .i64 ap], .int .i64 g1, .slice (some ⟨X, 0, none⟩) 512 512] (Sort.grow (redrawn W5 d) os) fun e w'' => e = .returned (.int .u32 (SB : Nat)) ∧ ∃ p : Regrown, w'' = Sort.grow (redrawn W5 p.d) p.os := fun d os => Calls.regrown_of (HRSB.out _ (HB5.out.trans ((below_regrown W5 d os).mono HB5.out.size)))
            refine wp_region_quiet_below Tryd.mixed11d (by kernel_rfl) ?_
            repeat (quiet_step (first | (go_at_call 7; first | with_reducible exact tA _ _ | with_reducible exact tB _ _)))
            refine wpQuiet_nil ?_
            intro _ hw'
            obtain ⟨⟨dq, osq⟩, hw''⟩ := hw'
            subst hw''
            dsimp only
            have HB6 : Hid (Below w.heap.size w (Sort.grow (redrawn W5 dq) osq)) := HFW.out _ (HKW.out _ (HB5.out.trans ((below_regrown W5 dq osq).mono HB5.out.size)))
            generalize Sort.grow (redrawn W5 dq) osq = W6 at *
            clear tA tB r0 r1 r2 r3 r4 r5 q0 q1 q2 q3 q4 q5
            go_wp2_with fail
            go_ret
            exact ⟨ret_bool (by simp), HB6.out⟩
          · have ep2 : (ap == bp) = false := by simpa using ep
            subst eh
            go_wp2_with fail
            have r0 := cell_regrown q0
            have r1 := cell_regrown q1
            have r2 := cell_regrown q2
            have r3 := cell_regrown q3
            have r4 := cell_regrown q4
            have r5 := cell_regrown q5
            have tA : ∀ d os, Calls Tryd.prog 7 #[.agg #[.int .i64 ah, .int .i64 ap], .int .i64 g0, .slice (some ⟨X, 0, none⟩) 512 512] (Sort.grow (redrawn W5 d) os) fun e w'' => e = .returned (.int .u32 (SA : Nat)) ∧ ∃ p : Regrown, w'' = Sort.grow (redrawn W5 p.d) p.os := fun d os => Calls.regrown_of (HRSA.out _ (HB5.out.trans ((below_regrown W5 d os).mono HB5.out.size)))
            have tB : ∀ d os, Calls Tryd.prog 7 #[.agg #[.int .i64 ah, .int .i64 bp], .int .i64 g1, .slice (some ⟨X, 0, none⟩) 512 512] (Sort.grow (redrawn W5 d) os) fun e w'' => e = .returned (.int .u32 (SB : Nat)) ∧ ∃ p : Regrown, w'' = Sort.grow (redrawn W5 p.d) p.os := fun d os => Calls.regrown_of (HRSB.out _ (HB5.out.trans ((below_regrown W5 d os).mono HB5.out.size)))
            refine wp_region_quiet_below Tryd.mixed11d (by kernel_rfl) ?_
            repeat (quiet_step (first | (go_at_call 7; first | with_reducible exact tA _ _ | with_reducible exact tB _ _)))
            refine wpQuiet_nil ?_
            intro _ hw'
            obtain ⟨⟨dq, osq⟩, hw''⟩ := hw'
            subst hw''
            dsimp only
            have HB6 : Hid (Below w.heap.size w (Sort.grow (redrawn W5 dq) osq)) := HFW.out _ (HKW.out _ (HB5.out.trans ((below_regrown W5 dq osq).mono HB5.out.size)))
            generalize Sort.grow (redrawn W5 dq) osq = W6 at *
            clear tA tB r0 r1 r2 r3 r4 r5 q0 q1 q2 q3 q4 q5
            go_wp2_with fail
            go_ret
            exact ⟨ret_bool (by simp), HB6.out⟩
        · have eh2 : (ah == bh) = false := by simpa using eh
          go_wp2_with fail
          have r0 := cell_regrown q0
          have r1 := cell_regrown q1
          have r2 := cell_regrown q2
          have r3 := cell_regrown q3
          have r4 := cell_regrown q4
          have r5 := cell_regrown q5
          have tA : ∀ d os, Calls Tryd.prog 7 #[.agg #[.int .i64 ah, .int .i64 ap], .int .i64 g0, .slice (some ⟨X, 0, none⟩) 512 512] (Sort.grow (redrawn W5 d) os) fun e w'' => e = .returned (.int .u32 (SA : Nat)) ∧ ∃ p : Regrown, w'' = Sort.grow (redrawn W5 p.d) p.os := fun d os => Calls.regrown_of (HRSA.out _ (HB5.out.trans ((below_regrown W5 d os).mono HB5.out.size)))
          have tB : ∀ d os, Calls Tryd.prog 7 #[.agg #[.int .i64 bh, .int .i64 bp], .int .i64 g1, .slice (some ⟨X, 0, none⟩) 512 512] (Sort.grow (redrawn W5 d) os) fun e w'' => e = .returned (.int .u32 (SB : Nat)) ∧ ∃ p : Regrown, w'' = Sort.grow (redrawn W5 p.d) p.os := fun d os => Calls.regrown_of (HRSB.out _ (HB5.out.trans ((below_regrown W5 d os).mono HB5.out.size)))
          refine wp_region_quiet_below Tryd.mixed11d (by kernel_rfl) ?_
          repeat (quiet_step (first | (go_at_call 7; first | with_reducible exact tA _ _ | with_reducible exact tB _ _)))
          refine wpQuiet_nil ?_
          intro _ hw'
          obtain ⟨⟨dq, osq⟩, hw''⟩ := hw'
          subst hw''
          dsimp only
          have HB6 : Hid (Below w.heap.size w (Sort.grow (redrawn W5 dq) osq)) := HFW.out _ (HKW.out _ (HB5.out.trans ((below_regrown W5 dq osq).mono HB5.out.size)))
          generalize Sort.grow (redrawn W5 dq) osq = W6 at *
          clear tA tB r0 r1 r2 r3 r4 r5 q0 q1 q2 q3 q4 q5
          go_wp2_with fail
          go_ret
          exact ⟨ret_bool (by simp), HB6.out⟩
theorem entryMoved_of (E : EntryD) (y0 y1 : Ky) (z2 : List Int) (w : World) (ht : Steps w) (f0 : KI y0) (f1 : KI y1) (g2 : z2.length = 2) (f2 : ∀ z ∈ z2, (Lit.int .i64 z).wf = true) :
    Calls Tryd.prog 4 #[.agg #[.int .i64 y0.1, .int .i64 y0.2], .agg #[.int .i64 y1.1, .int .i64 y1.2], .agg (z2.map (Value.int .i64)).toArray] w fun e w' => e = .returned (.bool true) ∧ Below w.heap.size w w' := by
  match z2, g2, f2 with
  | [a, b], _, f2 =>
    have ha : I64 a := by simpa [Lit.wf, IntKind.min, IntKind.max, IntKind.signed, IntKind.bits, I64] using f2 a (by simp)
    have hb : I64 b := by simpa [Lit.wf, IntKind.min, IntKind.max, IntKind.signed, IntKind.bits, I64] using f2 b (by simp)
    exact moved11_main E _ _ _ _ _ _ f0.1 f0.2 f1.1 f1.2 ha hb w ht
end Go.Proofs.YtfclhehpbniapaaDoor
