/- The document's examples, and the law KeyNumbers. -/
import Derived.Test.YtpnncdidbifbaaaRuns10
import Derived.Test.YtpnncdidbifbaaaWalkNum10
import Derived.Lib.QuietBelow
namespace Go.Proofs.Ytpnncdidbifbaaa
open Go.RowKit
set_option linter.unusedVariables false

theorem keys_three {w : World} {a b c : Ky} (e : TypeId) (ha : KI a) (hb : KI b) (hc : KI c) : Keys (w.alloc (.cells #[.int .i64 a.1, .int .i64 a.2, .int .i64 b.1, .int .i64 b.2, .int .i64 c.1, .int .i64 c.2] e)) (.slice (some ⟨w.heap.size, 0, none⟩) 3 3) [a, b, c] := by
  refine ⟨fun k hk => ?_, by simp [maxLen], _, 3, rfl, Nat.le_refl _, by simp [maxLen], .inr ⟨_, rfl, .inr ⟨w.heap.size, 0, rfl, by simp, fun j k hj => ?_⟩⟩⟩
  · simp only [List.mem_cons, List.not_mem_nil, or_false] at hk
    rcases hk with rfl | rfl | rfl <;> assumption
  · match j, hj with
    | 0, hj => simp at hj; subst hj; exact ⟨by simp, by simp⟩
    | 1, hj => simp at hj; subst hj; exact ⟨by simp, by simp⟩
    | 2, hj => simp at hj; subst hj; exact ⟨by simp, by simp⟩
    | j + 3, hj => simp at hj
theorem awake_runs : runsR (sortR [(1, 3), (1, 2), (2, 4)]) = [⟨1, 2, 2⟩, ⟨2, 4, 1⟩] := by
  have h1 : sortR [(1, 3), (1, 2), (2, 4)] = [(1, 2), (1, 3), (2, 4)] := by decide
  rw [h1]
  simp [runsR, rstep, wrap64]
set_option maxRecDepth 20000 in
set_option maxHeartbeats 1000000 in
theorem awake_any (w : World) : Calls Try.prog 7 #[] w fun e w' => e = .returned (.bool true) ∧ Below w.heap.size w w' := by
  have HN : Hid (∀ W, Calls Try.prog 11 #[.agg #[.int .i64 1, .int .i64 2]] W fun e w' => e = .returned (.int .i64 4098) ∧ Below W.heap.size W w') := fun W => number_any 1 2 W
  have HR : Hid (Calls Try.prog 20 #[.slice (some ⟨w.heap.size, 0, none⟩) 3 3] (w.alloc (.cells #[.int .i64 1, .int .i64 3, .int .i64 1, .int .i64 2, .int .i64 2, .int .i64 4] 23)) fun e w' => ∃ u, e = .returned u ∧ Rws w' u [⟨1, 2, 2⟩, ⟨2, 4, 1⟩] ∧ Below (w.heap.size + 1) (w.alloc (.cells #[.int .i64 1, .int .i64 3, .int .i64 1, .int .i64 2, .int .i64 2, .int .i64 4] 23)) w') := by
    have hk := keys_three (w := w) (a := (1, 3)) (b := (1, 2)) (c := (2, 4)) 23 ⟨⟨by decide, by decide⟩, ⟨by decide, by decide⟩⟩ ⟨⟨by decide, by decide⟩, ⟨by decide, by decide⟩⟩ ⟨⟨by decide, by decide⟩, ⟨by decide, by decide⟩⟩
    have := runs_any _ _ _ hk (by decide)
    rw [awake_runs] at this
    have e1 : (w.alloc (.cells #[.int .i64 1, .int .i64 3, .int .i64 1, .int .i64 2, .int .i64 2, .int .i64 4] 23)).heap.size = w.heap.size + 1 := by simp
    rwa [e1] at this
  go_enter Try.func7, Try.ntmps7
  go_wp2_with fail
  refine HR.out.mono ?_
  rintro e w1 ⟨u, rfl, hu, hB⟩
  have HB : Hid (Below w.heap.size w w1) := ((Below.refl _ _).alloc (Nat.le_refl _) _).trans (hB.mono (Nat.le_succ _))
  obtain ⟨a, ca, rfl⟩ := hu.shape
  obtain ⟨b, off, rfl, hb, hc⟩ := hu.addr (n := 2) (by decide)
  have HC : Hid (∀ W, Below w1.heap.size w1 W → W.cell? ⟨b, off, none⟩ = some (.int .i64 1) ∧ W.cell? ⟨b, off + 1, none⟩ = some (.int .i64 2) ∧ W.cell? ⟨b, off + 2, none⟩ = some (.int .i64 2) ∧ W.cell? ⟨b, off + 3 + 2, none⟩ = some (.int .i64 1)) := fun W hW => by
    have h0 := hc 0 _ rfl
    have h1 := hc 1 _ rfl
    simp only [Nat.zero_mul, Nat.add_zero, Nat.one_mul] at h0 h1
    exact ⟨(hW.cell (p := ⟨b, off, none⟩) hb).trans h0.1, (hW.cell (p := ⟨b, off + 1, none⟩) hb).trans h0.2.1, (hW.cell (p := ⟨b, off + 2, none⟩) hb).trans h0.2.2, (hW.cell (p := ⟨b, off + 3 + 2, none⟩) hb).trans h1.2.2⟩
  clear hB hu hb hc HR
  go_wp2_with fail
  refine (HN.out _).mono ?_
  rintro e w2 ⟨rfl, hB2⟩
  obtain ⟨x0, x1, x2, x3⟩ := HC.out w2 hB2
  have HB2 : Hid (Below w.heap.size w w2) := HB.out.trans (hB2.mono HB.out.size)
  clear hB2 HC HN HB
  go_wp2
  go_ret
  exact ⟨rfl, HB2.out⟩

/-! ### KeyNumbers -/
theorem num_lt {a b : Ky} (ha : isR a = true) (hb : isR b = true) : decide (numK a < numK b) = ltK a b := by
  unfold numK ltK
  rw [if_pos ha, if_pos hb]
  have h1 := isR_iff.1 ha
  have h2 := isR_iff.1 hb
  rw [decide_eq_decide]
  unfold KLt
  omega
theorem num_of {a : Ky} (ha : isR a = true) : numK a / 4096 = a.1 ∧ numK a % 4096 = a.2 := by
  unfold numK
  rw [if_pos ha]
  have h1 := isR_iff.1 ha
  omega
theorem of_num {a : Ky} (ha : isR a = true) : ofK (numK a) = a ∧ isR (numK a / 4096, numK a % 4096) = true := by
  obtain ⟨e1, e2⟩ := num_of ha
  rw [e1, e2]
  refine ⟨?_, ha⟩
  unfold ofK
  rw [e1, e2, if_pos ha]
theorem num_fit {a : Ky} (ha : isR a = true) : 4096 ≤ numK a ∧ numK a ≤ 266239 := by
  unfold numK
  rw [if_pos ha]
  have h1 := isR_iff.1 ha
  omega
theorem num_back {n : Int} (h : isR (n / 4096, n % 4096) = true) : ofK n = (n / 4096, n % 4096) ∧ numK (ofK n) = n := by
  have e : ofK n = (n / 4096, n % 4096) := by unfold ofK; rw [if_pos h]
  refine ⟨e, ?_⟩
  rw [e]
  unfold numK
  rw [if_pos h]
  simp only
  omega
theorem num_none {n : Int} (h : isR (n / 4096, n % 4096) = false) : ofK n = (0, 0) := by
  unfold ofK
  rw [if_neg (by rw [h]; decide)]
theorem Try.mixed10 : Try.prog.follows .mixedOrders = true := by kernel_rfl
set_option maxRecDepth 20000 in
set_option maxHeartbeats 4000000 in
theorem keyNumbers_walk (k0 k1 : Ky) (a2 : Int) (w : World) (f0 : KI k0) (f1 : KI k1) (f2 : (Lit.int .i64 a2).wf = true) :
    Calls Try.prog 3 #[.agg #[.int .i64 k0.1, .int .i64 k0.2], .agg #[.int .i64 k1.1, .int .i64 k1.2], .int .i64 a2] w fun e w' => e = .returned (.bool true) ∧ Below w.heap.size w w' := by
  obtain ⟨ah, ap⟩ := k0
  obtain ⟨bh, bp⟩ := k1
  simp only
  have hn : I64 a2 := by simpa [Lit.wf, IntKind.min, IntKind.max, IntKind.signed, IntKind.bits, I64] using f2
  have HAW : Hid (∀ W, Calls Try.prog 7 #[] W fun e w' => e = .returned (.bool true) ∧ Below W.heap.size W w') := awake_any
  have HOF : Hid (∀ W, Calls Try.prog 8 #[.int .i64 a2] W fun e w' => e = .returned (.tuple #[.agg #[.int .i64 (ofK a2).1, .int .i64 (ofK a2).2], .bool (isR (a2 / 4096, a2 % 4096))]) ∧ Below W.heap.size W w') := fun W => of_any a2 hn W
  have HB1 : Hid (isR (a2 / 4096, a2 % 4096) = true → ofK a2 = (a2 / 4096, a2 % 4096) ∧ numK (ofK a2) = a2) := fun h => num_back h
  have HB0 : Hid (isR (a2 / 4096, a2 % 4096) = false → ofK a2 = (0, 0)) := fun h => num_none h
  have HISK : Hid (isR (ofK a2) = isR (a2 / 4096, a2 % 4096)) := by
    cases h : isR (a2 / 4096, a2 % 4096)
    · rw [Hid, num_none h]; decide
    · rw [Hid, (num_back h).1, h]
  generalize hK : ofK a2 = K at *
  generalize hO : isR (a2 / 4096, a2 % 4096) = ok at *
  obtain ⟨kh, kp⟩ := K
  simp only at HOF
  clear f0 f1 f2 hn hK hO
  go_enter Try.func3, Try.ntmps3
  go_wp2_with fail
  refine (HAW.out _).mono ?_
  rintro e w1 ⟨rfl, hB⟩
  have HC1 : Hid (∀ W, Below w1.heap.size w1 W → W.cell? ⟨w.heap.size, 0, none⟩ = some (.int .i64 ah) ∧ W.cell? ⟨w.heap.size, 1, none⟩ = some (.int .i64 ap) ∧ W.cell? ⟨w.heap.size + 1, 0, none⟩ = some (.int .i64 bh) ∧ W.cell? ⟨w.heap.size + 1, 1, none⟩ = some (.int .i64 bp)) := fun W hW => by
    have h1 := hB.trans (hW.mono hB.size)
    exact ⟨(h1.cell (p := ⟨w.heap.size, 0, none⟩) (by simp; omega)).trans (by simp), (h1.cell (p := ⟨w.heap.size, 1, none⟩) (by simp; omega)).trans (by simp), (h1.cell (p := ⟨w.heap.size + 1, 0, none⟩) (by simp)).trans (by simp), (h1.cell (p := ⟨w.heap.size + 1, 1, none⟩) (by simp)).trans (by simp)⟩
  have HBA : Hid (Below w.heap.size w w1) := (((Below.refl _ _).alloc (Nat.le_refl _) _).alloc (by simp) _).trans (hB.mono (by simp; omega))
  clear hB HAW
  generalize hX : w.heap.size = X at *
  generalize hY : X + 1 = Y at *
  go_wp2_with fail
  refine (HOF.out _).mono ?_
  rintro e w2 ⟨rfl, hB⟩
  have HB2 : Hid (Below w1.heap.size w1 w2) := hB
  clear hB HOF
  go_wp2_with fail
  have HW3 : Hid (Below w1.heap.size w1 (w2.alloc (.cells #[.int .i64 kh, .int .i64 kp] 23))) := HB2.out.alloc HB2.out.size _
  obtain ⟨z0, z1, z2, z3⟩ := HC1.out _ HW3.out
  have z4 : (w2.alloc (.cells #[.int .i64 kh, .int .i64 kp] 23)).cell? ⟨w2.heap.size, 0, none⟩ = some (.int .i64 kh) := (new_cells w2 _ _ _ _ rfl).1
  have z5 : (w2.alloc (.cells #[.int .i64 kh, .int .i64 kp] 23)).cell? ⟨w2.heap.size, 1, none⟩ = some (.int .i64 kp) := (new_cells w2 _ _ _ _ rfl).2
  have HWB : Hid (Below w.heap.size w (w2.alloc (.cells #[.int .i64 kh, .int .i64 kp] 23))) := by rw [hX]; exact HBA.out.trans (HW3.out.mono (by have := HBA.out.size; omega))
  clear HW3 HC1 HBA HB2
  generalize w2.alloc (.cells #[.int .i64 kh, .int .i64 kp] 23) = W3 at *
  generalize w2.heap.size = Z at *
  have p0 := cell_regrown z0
  have p1 := cell_regrown z1
  have p2 := cell_regrown z2
  have p3 := cell_regrown z3
  have p4 := cell_regrown z4
  have p5 := cell_regrown z5
  obtain ⟨RA, hRA⟩ : ∃ RA, isR (ah, ap) = RA := ⟨_, rfl⟩
  obtain ⟨NA, hNA⟩ : ∃ NA, numK (ah, ap) = NA := ⟨_, rfl⟩
  cases ok
  · obtain ⟨rfl, rfl⟩ : kh = 0 ∧ kp = 0 := by have := HB0.out rfl; simpa using this
    have cRa : ∀ d os, Calls Try.prog 9 #[.agg #[.int .i64 ah, .int .i64 ap]] (Sort.grow (redrawn W3 d) os) fun e w'' => e = .returned (.bool RA) ∧ ∃ p : Regrown, w'' = Sort.grow (redrawn W3 p.d) p.os := fun d os => Calls.regrown_of (by have := right_any ah ap (Sort.grow (redrawn W3 d) os); rwa [hRA] at this)
    have cSa : ∀ d os, Calls Try.prog 10 #[.agg #[.int .i64 ah, .int .i64 ap]] (Sort.grow (redrawn W3 d) os) fun e w'' => e = .returned (.bool RA) ∧ ∃ p : Regrown, w'' = Sort.grow (redrawn W3 p.d) p.os := fun d os => Calls.regrown_of (by have := refRight_any ah ap (Sort.grow (redrawn W3 d) os); rwa [hRA] at this)
    have cNa : ∀ d os, Calls Try.prog 11 #[.agg #[.int .i64 ah, .int .i64 ap]] (Sort.grow (redrawn W3 d) os) fun e w'' => e = .returned (.int .i64 NA) ∧ ∃ p : Regrown, w'' = Sort.grow (redrawn W3 p.d) p.os := fun d os => Calls.regrown_of (by have := number_any ah ap (Sort.grow (redrawn W3 d) os); rwa [hNA] at this)
    have cMa : ∀ d os, Calls Try.prog 12 #[.agg #[.int .i64 ah, .int .i64 ap]] (Sort.grow (redrawn W3 d) os) fun e w'' => e = .returned (.int .i64 NA) ∧ ∃ p : Regrown, w'' = Sort.grow (redrawn W3 p.d) p.os := fun d os => Calls.regrown_of (by have := refNumber_any ah ap (Sort.grow (redrawn W3 d) os); rwa [hNA] at this)
    have cSk : ∀ d os, Calls Try.prog 10 #[.agg #[.int .i64 0, .int .i64 0]] (Sort.grow (redrawn W3 d) os) fun e w'' => e = .returned (.bool false) ∧ ∃ p : Regrown, w'' = Sort.grow (redrawn W3 p.d) p.os := fun d os => Calls.regrown_of (by have := refRight_any 0 0 (Sort.grow (redrawn W3 d) os); rwa [HISK.out] at this)
    clear HB1 HB0 HISK
    refine wp_region_quiet_below Try.mixed10 (by kernel_rfl) ?_
    repeat (quiet_step (first | (go_at_call 9; with_reducible exact cRa _ _) | (go_at_call 10; first | with_reducible exact cSa _ _ | with_reducible exact cSk _ _) | (go_at_call 11; with_reducible exact cNa _ _) | (go_at_call 12; first | with_reducible exact cMa _ _ )))
    refine wpQuiet_nil ?_
    intro _ hw'
    obtain ⟨⟨dq, osq⟩, hw''⟩ := hw'
    subst hw''
    dsimp only
    have HW4 : Hid (Below X w (Sort.grow (redrawn W3 dq) osq)) := by rw [← hX]; exact HWB.out.trans ((below_regrown W3 dq osq).mono HWB.out.size)
    have q0 := cell_regrown z0 dq osq
    have q1 := cell_regrown z1 dq osq
    have q2 := cell_regrown z2 dq osq
    have q3 := cell_regrown z3 dq osq
    generalize Sort.grow (redrawn W3 dq) osq = W4 at *
    clear cRa cSa cNa cMa cSk hNA p0 p1 p2 p3 p4 p5 z0 z1 z2 z3 z4 z5 HWB
    go_wp2_with fail
    have HRA : Hid (isR (ah, ap) = RA) := hRA
    clear hRA
    have HSR : Hid (∀ W h p, Calls Try.prog 10 #[.agg #[.int .i64 h, .int .i64 p]] W fun e w' => e = .returned (.bool (isR (h, p))) ∧ Below W.heap.size W w') := fun W h p => refRight_any h p W
    have HRA2 : Hid (∀ W, Calls Try.prog 10 #[.agg #[.int .i64 ah, .int .i64 ap]] W fun e w' => e = .returned (.bool RA) ∧ Below W.heap.size W w') := fun W => by have := HSR.out W ah ap; rwa [HRA.out] at this
    cases RA
    · go_wp2_with fail
      refine (HRA2.out _).mono ?_
      rintro e w5 ⟨rfl, hB5⟩
      have HB5 : Hid (Below X w w5) := HW4.out.trans (hB5.mono (by have := HW4.out.size; omega))
      clear hB5
      go_wp2_with fail
      go_ret
      exact ⟨rfl, by rw [hX]; exact HB5.out⟩
    · obtain ⟨RB, hRB⟩ : ∃ RB, RB = isR (bh, bp) := ⟨_, rfl⟩
      have HRB2 : Hid (∀ W, Calls Try.prog 10 #[.agg #[.int .i64 bh, .int .i64 bp]] W fun e w' => e = .returned (.bool RB) ∧ Below W.heap.size W w') := fun W => by have := HSR.out W bh bp; rwa [← hRB] at this
      go_wp2_with fail
      refine (HRA2.out _).mono ?_
      rintro e w5 ⟨rfl, hB5⟩
      have HB5 : Hid (Below X w w5) := HW4.out.trans (hB5.mono (by have := HW4.out.size; omega))
      have r2 : w5.cell? ⟨Y, 0, none⟩ = some (.int .i64 bh) := (hB5.cell (block_lt_of_cell q2)).trans q2
      have r3 : w5.cell? ⟨Y, 1, none⟩ = some (.int .i64 bp) := (hB5.cell (block_lt_of_cell q3)).trans q3
      have r0 : w5.cell? ⟨X, 0, none⟩ = some (.int .i64 ah) := (hB5.cell (block_lt_of_cell q0)).trans q0
      have r1 : w5.cell? ⟨X, 1, none⟩ = some (.int .i64 ap) := (hB5.cell (block_lt_of_cell q1)).trans q1
      clear hB5
      cases RB
      · go_wp2_with fail
        refine (HRB2.out _).mono ?_
        rintro e w6 ⟨rfl, hB6⟩
        have HB6 : Hid (Below X w w6) := HB5.out.trans (hB6.mono (by have := HB5.out.size; omega))
        clear hB6
        go_wp2_with fail
        go_ret
        exact ⟨rfl, by rw [hX]; exact HB6.out⟩
      · have HNA : Hid (∀ W, Calls Try.prog 11 #[.agg #[.int .i64 ah, .int .i64 ap]] W fun e w' => e = .returned (.int .i64 (numK (ah, ap))) ∧ Below W.heap.size W w') := fun W => number_any ah ap W
        have HNB : Hid (∀ W, Calls Try.prog 11 #[.agg #[.int .i64 bh, .int .i64 bp]] W fun e w' => e = .returned (.int .i64 (numK (bh, bp))) ∧ Below W.heap.size W w') := fun W => number_any bh bp W
        have HOA : Hid (∀ W, Calls Try.prog 8 #[.int .i64 (numK (ah, ap))] W fun e w' => e = .returned (.tuple #[.agg #[.int .i64 ah, .int .i64 ap], .bool true]) ∧ Below W.heap.size W w') := fun W => by
          have hf := num_fit HRA.out
          have := of_any (numK (ah, ap)) ⟨by omega, by omega⟩ W
          rwa [(of_num HRA.out).1, (of_num HRA.out).2] at this
        have HLT : Hid (decide (numK (ah, ap) < numK (bh, bp)) = ltK (ah, ap) (bh, bp)) := num_lt HRA.out hRB.symm
        have HLE : Hid (∀ W, Calls Try.prog 13 #[.agg #[.int .i64 ah, .int .i64 ap], .agg #[.int .i64 bh, .int .i64 bp]] W fun e w' => e = .returned (.bool (ltK (ah, ap) (bh, bp))) ∧ Below W.heap.size W w') := fun W => refLess_any ah ap bh bp W
        clear hRB HRA HSR
        generalize numK (ah, ap) = NA at *
        generalize numK (bh, bp) = NB at *
        generalize ltK (ah, ap) (bh, bp) = LT at *
        go_wp2_with fail
        refine (HRB2.out _).mono ?_
        rintro e w6 ⟨rfl, hB6⟩
        have HB6 : Hid (Below X w w6) := HB5.out.trans (hB6.mono (by have := HB5.out.size; omega))
        have s2 : w6.cell? ⟨Y, 0, none⟩ = some (.int .i64 bh) := (hB6.cell (block_lt_of_cell r2)).trans r2
        have s3 : w6.cell? ⟨Y, 1, none⟩ = some (.int .i64 bp) := (hB6.cell (block_lt_of_cell r3)).trans r3
        have s0 : w6.cell? ⟨X, 0, none⟩ = some (.int .i64 ah) := (hB6.cell (block_lt_of_cell r0)).trans r0
        have s1 : w6.cell? ⟨X, 1, none⟩ = some (.int .i64 ap) := (hB6.cell (block_lt_of_cell r1)).trans r1
        clear hB6 HB5 HRA2 HRB2 r0 r1 r2 r3 q0 q1 q2 q3
        go_wp2_with fail
        refine (HNA.out _).mono ?_
        rintro e w7 ⟨rfl, hB7⟩
        have HB7 : Hid (Below w6.heap.size w6 w7) := hB7
        clear hB7
        go_wp2_with fail
        refine (HOA.out _).mono ?_
        rintro e w8 ⟨rfl, hB8⟩
        have HB8 : Hid (Below w6.heap.size w6 w8) := HB7.out.trans (hB8.mono HB7.out.size)
        clear hB8 HB7
        have HZ2 : Hid (Below w6.heap.size w6 (w8.alloc (.cells #[.int .i64 ah, .int .i64 ap] 23))) := HB8.out.alloc HB8.out.size _
        have t0 : (w8.alloc (.cells #[.int .i64 ah, .int .i64 ap] 23)).cell? ⟨X, 0, none⟩ = some (.int .i64 ah) := (HZ2.out.cell (block_lt_of_cell s0)).trans s0
        have t1 : (w8.alloc (.cells #[.int .i64 ah, .int .i64 ap] 23)).cell? ⟨X, 1, none⟩ = some (.int .i64 ap) := (HZ2.out.cell (block_lt_of_cell s1)).trans s1
        have t2 : (w8.alloc (.cells #[.int .i64 ah, .int .i64 ap] 23)).cell? ⟨Y, 0, none⟩ = some (.int .i64 bh) := (HZ2.out.cell (block_lt_of_cell s2)).trans s2
        have t3 : (w8.alloc (.cells #[.int .i64 ah, .int .i64 ap] 23)).cell? ⟨Y, 1, none⟩ = some (.int .i64 bp) := (HZ2.out.cell (block_lt_of_cell s3)).trans s3
        have t4 : (w8.alloc (.cells #[.int .i64 ah, .int .i64 ap] 23)).cell? ⟨w8.heap.size, 0, none⟩ = some (.int .i64 ah) := (new_cells w8 _ _ _ _ rfl).1
        have t5 : (w8.alloc (.cells #[.int .i64 ah, .int .i64 ap] 23)).cell? ⟨w8.heap.size, 1, none⟩ = some (.int .i64 ap) := (new_cells w8 _ _ _ _ rfl).2
        have HZB : Hid (Below X w (w8.alloc (.cells #[.int .i64 ah, .int .i64 ap] 23))) := HB6.out.trans (HZ2.out.mono (by have := HB6.out.size; omega))
        clear s0 s1 s2 s3 HZ2 HB8 HB6
        go_wp2_with fail
        generalize w8.alloc (.cells #[.int .i64 ah, .int .i64 ap] 23) = W5 at *
        generalize w8.heap.size = V at *
        have u0 := cell_regrown t0
        have u1 := cell_regrown t1
        have u2 := cell_regrown t2
        have u3 := cell_regrown t3
        have u4 := cell_regrown t4
        have u5 := cell_regrown t5
        have hlt := HLT.out
        have dA : ∀ d os, Calls Try.prog 11 #[.agg #[.int .i64 ah, .int .i64 ap]] (Sort.grow (redrawn W5 d) os) fun e w'' => e = .returned (.int .i64 NA) ∧ ∃ p : Regrown, w'' = Sort.grow (redrawn W5 p.d) p.os := fun d os => Calls.regrown_of (HNA.out _)
        have dB : ∀ d os, Calls Try.prog 11 #[.agg #[.int .i64 bh, .int .i64 bp]] (Sort.grow (redrawn W5 d) os) fun e w'' => e = .returned (.int .i64 NB) ∧ ∃ p : Regrown, w'' = Sort.grow (redrawn W5 p.d) p.os := fun d os => Calls.regrown_of (HNB.out _)
        have dL : ∀ d os, Calls Try.prog 13 #[.agg #[.int .i64 ah, .int .i64 ap], .agg #[.int .i64 bh, .int .i64 bp]] (Sort.grow (redrawn W5 d) os) fun e w'' => e = .returned (.bool LT) ∧ ∃ p : Regrown, w'' = Sort.grow (redrawn W5 p.d) p.os := fun d os => Calls.regrown_of (HLE.out _)
        refine wp_region_quiet_below Try.mixed10 (by kernel_rfl) ?_
        repeat (quiet_step (first | (go_at_call 11; first | with_reducible exact dA _ _ | with_reducible exact dB _ _) | (go_at_call 13; with_reducible exact dL _ _)))
        refine wpQuiet_nil ?_
        intro _ hw'
        obtain ⟨⟨dq, osq⟩, hw''⟩ := hw'
        subst hw''
        dsimp only
        have HZF : Hid (Below X w (Sort.grow (redrawn W5 dq) osq)) := HZB.out.trans ((below_regrown W5 dq osq).mono (by have := HZB.out.size; omega))
        generalize Sort.grow (redrawn W5 dq) osq = W6 at *
        clear dA dB dL u0 u1 u2 u3 u4 u5
        go_wp2
        go_ret
        exact ⟨rfl, by rw [hX]; exact HZF.out⟩
  · have cRa : ∀ d os, Calls Try.prog 9 #[.agg #[.int .i64 ah, .int .i64 ap]] (Sort.grow (redrawn W3 d) os) fun e w'' => e = .returned (.bool RA) ∧ ∃ p : Regrown, w'' = Sort.grow (redrawn W3 p.d) p.os := fun d os => Calls.regrown_of (by have := right_any ah ap (Sort.grow (redrawn W3 d) os); rwa [hRA] at this)
    have cSa : ∀ d os, Calls Try.prog 10 #[.agg #[.int .i64 ah, .int .i64 ap]] (Sort.grow (redrawn W3 d) os) fun e w'' => e = .returned (.bool RA) ∧ ∃ p : Regrown, w'' = Sort.grow (redrawn W3 p.d) p.os := fun d os => Calls.regrown_of (by have := refRight_any ah ap (Sort.grow (redrawn W3 d) os); rwa [hRA] at this)
    have cNa : ∀ d os, Calls Try.prog 11 #[.agg #[.int .i64 ah, .int .i64 ap]] (Sort.grow (redrawn W3 d) os) fun e w'' => e = .returned (.int .i64 NA) ∧ ∃ p : Regrown, w'' = Sort.grow (redrawn W3 p.d) p.os := fun d os => Calls.regrown_of (by have := number_any ah ap (Sort.grow (redrawn W3 d) os); rwa [hNA] at this)
    have cMa : ∀ d os, Calls Try.prog 12 #[.agg #[.int .i64 ah, .int .i64 ap]] (Sort.grow (redrawn W3 d) os) fun e w'' => e = .returned (.int .i64 NA) ∧ ∃ p : Regrown, w'' = Sort.grow (redrawn W3 p.d) p.os := fun d os => Calls.regrown_of (by have := refNumber_any ah ap (Sort.grow (redrawn W3 d) os); rwa [hNA] at this)
    have cSk : ∀ d os, Calls Try.prog 10 #[.agg #[.int .i64 kh, .int .i64 kp]] (Sort.grow (redrawn W3 d) os) fun e w'' => e = .returned (.bool true) ∧ ∃ p : Regrown, w'' = Sort.grow (redrawn W3 p.d) p.os := fun d os => Calls.regrown_of (by have := refRight_any kh kp (Sort.grow (redrawn W3 d) os); rwa [HISK.out] at this)
    have cMk : ∀ d os, Calls Try.prog 12 #[.agg #[.int .i64 kh, .int .i64 kp]] (Sort.grow (redrawn W3 d) os) fun e w'' => e = .returned (.int .i64 a2) ∧ ∃ p : Regrown, w'' = Sort.grow (redrawn W3 p.d) p.os := fun d os => Calls.regrown_of (by have := refNumber_any kh kp (Sort.grow (redrawn W3 d) os); rwa [(HB1.out rfl).2] at this)
    clear HB1 HB0 HISK
    refine wp_region_quiet_below Try.mixed10 (by kernel_rfl) ?_
    repeat (quiet_step (first | (go_at_call 9; with_reducible exact cRa _ _) | (go_at_call 10; first | with_reducible exact cSa _ _ | with_reducible exact cSk _ _) | (go_at_call 11; with_reducible exact cNa _ _) | (go_at_call 12; first | with_reducible exact cMa _ _ | with_reducible exact cMk _ _)))
    refine wpQuiet_nil ?_
    intro _ hw'
    obtain ⟨⟨dq, osq⟩, hw''⟩ := hw'
    subst hw''
    dsimp only
    have HW4 : Hid (Below X w (Sort.grow (redrawn W3 dq) osq)) := by rw [← hX]; exact HWB.out.trans ((below_regrown W3 dq osq).mono HWB.out.size)
    have q0 := cell_regrown z0 dq osq
    have q1 := cell_regrown z1 dq osq
    have q2 := cell_regrown z2 dq osq
    have q3 := cell_regrown z3 dq osq
    generalize Sort.grow (redrawn W3 dq) osq = W4 at *
    clear cRa cSa cNa cMa cSk cMk hNA p0 p1 p2 p3 p4 p5 z0 z1 z2 z3 z4 z5 HWB
    go_wp2_with fail
    have HRA : Hid (isR (ah, ap) = RA) := hRA
    clear hRA
    have HSR : Hid (∀ W h p, Calls Try.prog 10 #[.agg #[.int .i64 h, .int .i64 p]] W fun e w' => e = .returned (.bool (isR (h, p))) ∧ Below W.heap.size W w') := fun W h p => refRight_any h p W
    have HRA2 : Hid (∀ W, Calls Try.prog 10 #[.agg #[.int .i64 ah, .int .i64 ap]] W fun e w' => e = .returned (.bool RA) ∧ Below W.heap.size W w') := fun W => by have := HSR.out W ah ap; rwa [HRA.out] at this
    cases RA
    · go_wp2_with fail
      refine (HRA2.out _).mono ?_
      rintro e w5 ⟨rfl, hB5⟩
      have HB5 : Hid (Below X w w5) := HW4.out.trans (hB5.mono (by have := HW4.out.size; omega))
      clear hB5
      go_wp2_with fail
      go_ret
      exact ⟨rfl, by rw [hX]; exact HB5.out⟩
    · obtain ⟨RB, hRB⟩ : ∃ RB, RB = isR (bh, bp) := ⟨_, rfl⟩
      have HRB2 : Hid (∀ W, Calls Try.prog 10 #[.agg #[.int .i64 bh, .int .i64 bp]] W fun e w' => e = .returned (.bool RB) ∧ Below W.heap.size W w') := fun W => by have := HSR.out W bh bp; rwa [← hRB] at this
      go_wp2_with fail
      refine (HRA2.out _).mono ?_
      rintro e w5 ⟨rfl, hB5⟩
      have HB5 : Hid (Below X w w5) := HW4.out.trans (hB5.mono (by have := HW4.out.size; omega))
      have r2 : w5.cell? ⟨Y, 0, none⟩ = some (.int .i64 bh) := (hB5.cell (block_lt_of_cell q2)).trans q2
      have r3 : w5.cell? ⟨Y, 1, none⟩ = some (.int .i64 bp) := (hB5.cell (block_lt_of_cell q3)).trans q3
      have r0 : w5.cell? ⟨X, 0, none⟩ = some (.int .i64 ah) := (hB5.cell (block_lt_of_cell q0)).trans q0
      have r1 : w5.cell? ⟨X, 1, none⟩ = some (.int .i64 ap) := (hB5.cell (block_lt_of_cell q1)).trans q1
      clear hB5
      cases RB
      · go_wp2_with fail
        refine (HRB2.out _).mono ?_
        rintro e w6 ⟨rfl, hB6⟩
        have HB6 : Hid (Below X w w6) := HB5.out.trans (hB6.mono (by have := HB5.out.size; omega))
        clear hB6
        go_wp2_with fail
        go_ret
        exact ⟨rfl, by rw [hX]; exact HB6.out⟩
      · have HNA : Hid (∀ W, Calls Try.prog 11 #[.agg #[.int .i64 ah, .int .i64 ap]] W fun e w' => e = .returned (.int .i64 (numK (ah, ap))) ∧ Below W.heap.size W w') := fun W => number_any ah ap W
        have HNB : Hid (∀ W, Calls Try.prog 11 #[.agg #[.int .i64 bh, .int .i64 bp]] W fun e w' => e = .returned (.int .i64 (numK (bh, bp))) ∧ Below W.heap.size W w') := fun W => number_any bh bp W
        have HOA : Hid (∀ W, Calls Try.prog 8 #[.int .i64 (numK (ah, ap))] W fun e w' => e = .returned (.tuple #[.agg #[.int .i64 ah, .int .i64 ap], .bool true]) ∧ Below W.heap.size W w') := fun W => by
          have hf := num_fit HRA.out
          have := of_any (numK (ah, ap)) ⟨by omega, by omega⟩ W
          rwa [(of_num HRA.out).1, (of_num HRA.out).2] at this
        have HLT : Hid (decide (numK (ah, ap) < numK (bh, bp)) = ltK (ah, ap) (bh, bp)) := num_lt HRA.out hRB.symm
        have HLE : Hid (∀ W, Calls Try.prog 13 #[.agg #[.int .i64 ah, .int .i64 ap], .agg #[.int .i64 bh, .int .i64 bp]] W fun e w' => e = .returned (.bool (ltK (ah, ap) (bh, bp))) ∧ Below W.heap.size W w') := fun W => refLess_any ah ap bh bp W
        clear hRB HRA HSR
        generalize numK (ah, ap) = NA at *
        generalize numK (bh, bp) = NB at *
        generalize ltK (ah, ap) (bh, bp) = LT at *
        go_wp2_with fail
        refine (HRB2.out _).mono ?_
        rintro e w6 ⟨rfl, hB6⟩
        have HB6 : Hid (Below X w w6) := HB5.out.trans (hB6.mono (by have := HB5.out.size; omega))
        have s2 : w6.cell? ⟨Y, 0, none⟩ = some (.int .i64 bh) := (hB6.cell (block_lt_of_cell r2)).trans r2
        have s3 : w6.cell? ⟨Y, 1, none⟩ = some (.int .i64 bp) := (hB6.cell (block_lt_of_cell r3)).trans r3
        have s0 : w6.cell? ⟨X, 0, none⟩ = some (.int .i64 ah) := (hB6.cell (block_lt_of_cell r0)).trans r0
        have s1 : w6.cell? ⟨X, 1, none⟩ = some (.int .i64 ap) := (hB6.cell (block_lt_of_cell r1)).trans r1
        clear hB6 HB5 HRA2 HRB2 r0 r1 r2 r3 q0 q1 q2 q3
        go_wp2_with fail
        refine (HNA.out _).mono ?_
        rintro e w7 ⟨rfl, hB7⟩
        have HB7 : Hid (Below w6.heap.size w6 w7) := hB7
        clear hB7
        go_wp2_with fail
        refine (HOA.out _).mono ?_
        rintro e w8 ⟨rfl, hB8⟩
        have HB8 : Hid (Below w6.heap.size w6 w8) := HB7.out.trans (hB8.mono HB7.out.size)
        clear hB8 HB7
        have HZ2 : Hid (Below w6.heap.size w6 (w8.alloc (.cells #[.int .i64 ah, .int .i64 ap] 23))) := HB8.out.alloc HB8.out.size _
        have t0 : (w8.alloc (.cells #[.int .i64 ah, .int .i64 ap] 23)).cell? ⟨X, 0, none⟩ = some (.int .i64 ah) := (HZ2.out.cell (block_lt_of_cell s0)).trans s0
        have t1 : (w8.alloc (.cells #[.int .i64 ah, .int .i64 ap] 23)).cell? ⟨X, 1, none⟩ = some (.int .i64 ap) := (HZ2.out.cell (block_lt_of_cell s1)).trans s1
        have t2 : (w8.alloc (.cells #[.int .i64 ah, .int .i64 ap] 23)).cell? ⟨Y, 0, none⟩ = some (.int .i64 bh) := (HZ2.out.cell (block_lt_of_cell s2)).trans s2
        have t3 : (w8.alloc (.cells #[.int .i64 ah, .int .i64 ap] 23)).cell? ⟨Y, 1, none⟩ = some (.int .i64 bp) := (HZ2.out.cell (block_lt_of_cell s3)).trans s3
        have t4 : (w8.alloc (.cells #[.int .i64 ah, .int .i64 ap] 23)).cell? ⟨w8.heap.size, 0, none⟩ = some (.int .i64 ah) := (new_cells w8 _ _ _ _ rfl).1
        have t5 : (w8.alloc (.cells #[.int .i64 ah, .int .i64 ap] 23)).cell? ⟨w8.heap.size, 1, none⟩ = some (.int .i64 ap) := (new_cells w8 _ _ _ _ rfl).2
        have HZB : Hid (Below X w (w8.alloc (.cells #[.int .i64 ah, .int .i64 ap] 23))) := HB6.out.trans (HZ2.out.mono (by have := HB6.out.size; omega))
        clear s0 s1 s2 s3 HZ2 HB8 HB6
        go_wp2_with fail
        generalize w8.alloc (.cells #[.int .i64 ah, .int .i64 ap] 23) = W5 at *
        generalize w8.heap.size = V at *
        have u0 := cell_regrown t0
        have u1 := cell_regrown t1
        have u2 := cell_regrown t2
        have u3 := cell_regrown t3
        have u4 := cell_regrown t4
        have u5 := cell_regrown t5
        have hlt := HLT.out
        have dA : ∀ d os, Calls Try.prog 11 #[.agg #[.int .i64 ah, .int .i64 ap]] (Sort.grow (redrawn W5 d) os) fun e w'' => e = .returned (.int .i64 NA) ∧ ∃ p : Regrown, w'' = Sort.grow (redrawn W5 p.d) p.os := fun d os => Calls.regrown_of (HNA.out _)
        have dB : ∀ d os, Calls Try.prog 11 #[.agg #[.int .i64 bh, .int .i64 bp]] (Sort.grow (redrawn W5 d) os) fun e w'' => e = .returned (.int .i64 NB) ∧ ∃ p : Regrown, w'' = Sort.grow (redrawn W5 p.d) p.os := fun d os => Calls.regrown_of (HNB.out _)
        have dL : ∀ d os, Calls Try.prog 13 #[.agg #[.int .i64 ah, .int .i64 ap], .agg #[.int .i64 bh, .int .i64 bp]] (Sort.grow (redrawn W5 d) os) fun e w'' => e = .returned (.bool LT) ∧ ∃ p : Regrown, w'' = Sort.grow (redrawn W5 p.d) p.os := fun d os => Calls.regrown_of (HLE.out _)
        refine wp_region_quiet_below Try.mixed10 (by kernel_rfl) ?_
        repeat (quiet_step (first | (go_at_call 11; first | with_reducible exact dA _ _ | with_reducible exact dB _ _) | (go_at_call 13; with_reducible exact dL _ _)))
        refine wpQuiet_nil ?_
        intro _ hw'
        obtain ⟨⟨dq, osq⟩, hw''⟩ := hw'
        subst hw''
        dsimp only
        have HZF : Hid (Below X w (Sort.grow (redrawn W5 dq) osq)) := HZB.out.trans ((below_regrown W5 dq osq).mono (by have := HZB.out.size; omega))
        generalize Sort.grow (redrawn W5 dq) osq = W6 at *
        clear dA dB dL u0 u1 u2 u3 u4 u5
        go_wp2
        go_ret
        exact ⟨rfl, by rw [hX]; exact HZF.out⟩
end Go.Proofs.Ytpnncdidbifbaaa
