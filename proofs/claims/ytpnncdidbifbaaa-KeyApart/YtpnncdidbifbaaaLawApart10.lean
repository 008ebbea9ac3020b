/- The law KeyApart. -/
import Derived.Test.YtpnncdidbifbaaaLawRuns10
import Derived.Test.YtpnncdidbifbaaaApart10
import Derived.BigRegion
namespace Go.Proofs.Ytpnncdidbifbaaa
open Go.RowKit Go.Maps
set_option linter.unusedVariables false

set_option maxRecDepth 20000 in
set_option maxHeartbeats 4000000 in
theorem keyApart_walk (a0 : Option Addr) (len0 cap0 : Nat) (c0 : List Ky) (w : World) (f0 : Keys w (.slice a0 len0 cap0) c0) :
    Calls Try.prog 6 #[.slice a0 len0 cap0] w fun e w' => e = .returned (.bool true) ∧ Below w.heap.size w w' := by
  have HAW : Hid (∀ W, Calls Try.prog 7 #[] W fun e w' => e = .returned (.bool true) ∧ Below W.heap.size W w') := awake_any
  have hm0 : len0 ≤ 9223372036854775807 := by have := f0.capLe; unfold maxLen at this; omega
  have HL0 : Hid (c0.length = len0) := f0.lenEq
  have HF0 : Hid (Keys w (.slice a0 len0 cap0) c0) := f0
  clear f0
  by_cases hl0 : 30 < len0
  · go_enter Try.func6, Try.ntmps6
    go_wp2_with fail
    refine (HAW.out _).mono ?_
    rintro e w1 ⟨rfl, hB⟩
    have HB : Hid (Below w.heap.size w w1) := hB
    clear hB
    go_wp2_with fail
    refine (HAW.out _).mono ?_
    rintro e w2 ⟨rfl, hB2⟩
    have HB2 : Hid (Below w.heap.size w w2) := HB.out.trans (hB2.mono HB.out.size)
    clear hB2
    go_wp2
    go_ret
    exact ⟨rfl, HB2.out⟩
  have hl0' : len0 ≤ 30 := by omega
  clear hm0
  go_enter Try.func6, Try.ntmps6
  go_wp2_with fail
  refine (HAW.out _).mono ?_
  rintro e w1 ⟨rfl, hB⟩
  have HB1 : Hid (Below w.heap.size w w1) := hB
  clear hB HAW
  go_wp2_with fail
  go_loopw [3] (fun i wr => ∃ j : Nat, i = .int .i64 (j : Nat) ∧ j ≤ len0 ∧ Hid (∀ k ∈ c0.take j, isR k = true) ∧ Hid (Below w.heap.size w wr)) (fun i _ => len0 - (intOf i).toNat)
  case atStart => exact ⟨0, rfl, Nat.zero_le _, by simp [Hid], HB1.out⟩
  case round =>
    obtain ⟨j, rfl, hj, HRJ, HB⟩ := hrel
    clear HB1
    by_cases hlt : j < len0
    · obtain ⟨kb, ko, rfl, hkb, hkc⟩ := (HF0.out.kept HB.out).addr (by omega)
      obtain ⟨h, p, hkk⟩ := key_at (ks := c0) (j := j) (by rw [HL0.out]; exact hlt)
      have t0 : wr.cell? ⟨kb, ko + j * 2, none⟩ = some (.int .i64 h) := (hkc j _ hkk).1
      have t1 : wr.cell? ⟨kb, ko + j * 2 + 1, none⟩ = some (.int .i64 p) := (hkc j _ hkk).2
      have HTS : Hid (c0.take (j + 1) = c0.take j ++ [(h, p)]) := take_snoc hkk
      have HRI : Hid (Calls Try.prog 10 #[.agg #[.int .i64 h, .int .i64 p]] wr fun e w' => e = .returned (.bool (isR (h, p))) ∧ Below wr.heap.size wr w') := refRight_any h p wr
      clear hkb hkc hkk
      obtain ⟨RA, hRA⟩ : ∃ RA, isR (h, p) = RA := ⟨_, rfl⟩
      rw [hRA] at HRI
      have HRA : Hid (isR (h, p) = RA) := hRA
      clear hRA
      cases RA
      · go_wp2_with fail
        refine HRI.out.mono ?_
        rintro e wx ⟨rfl, hBX⟩
        have HBX : Hid (Below w.heap.size w wx) := HB.out.trans (hBX.mono HB.out.size)
        clear hBX
        go_wp2_with fail
        go_ret
        exact ⟨rfl, HBX.out⟩
      · go_wp2_with fail
        refine HRI.out.mono ?_
        rintro e wx ⟨rfl, hBX⟩
        have HBX : Hid (Below w.heap.size w wx) := HB.out.trans (hBX.mono HB.out.size)
        have HRJ2 : Hid (∀ k ∈ c0.take (j + 1), isR k = true) := by
          unfold Hid
          rw [HTS.out]
          intro k hk
          rw [List.mem_append, List.mem_singleton] at hk
          rcases hk with hk | rfl
          · exact HRJ.out k hk
          · exact HRA.out
        clear hBX HB HRJ HRA HTS HRI t0 t1
        go_wp2_with fail
        go_roundw
        case rel => exact ⟨j + 1, by go_num, by omega, HRJ2.out, HBX.out⟩
        case measure => simp [intOf]; omega
    · have HALL : Hid (∀ k ∈ c0, isR k = true) := by
        have h1 := HRJ.out
        rwa [List.take_of_length_le (by rw [HL0.out]; omega)] at h1
      have HRU : Hid (Calls Try.prog 20 #[.slice a0 len0 cap0] wr fun e w' => ∃ u, e = .returned u ∧ Rws w' u (runsR (sortR c0)) ∧ Below wr.heap.size wr w') := runs_any wr _ c0 (HF0.out.kept HB.out) (by have := HL0.out; omega)
      have HOF : Hid (RunsOf (sortR c0) (runsR (sortR c0))) := runs_of (sortR_rises c0) (fun k hk => HALL.out k (sortR_mem.1 hk))
      have HRL : Hid ((runsR (sortR c0)).length ≤ 30) := Nat.le_trans (runs_len _) (Nat.le_trans (sortR_len _) (by have := HL0.out; omega))
      clear HRJ
      go_wp2_with fail
      refine HRU.out.mono ?_
      rintro e w2 ⟨u, rfl, hR, hB⟩
      have HR2 : Hid (Rws w2 u (runsR (sortR c0))) := hR
      have HB2 : Hid (Below w.heap.size w w2) := HB.out.trans (hB.mono HB.out.size)
      have HK2 : Hid (Keys w2 (.slice a0 len0 cap0) c0) := HF0.out.kept HB2.out
      clear hR hB HRU HB HF0
      generalize runsR (sortR c0) = R at *
      obtain ⟨ua, uc, rfl⟩ := HR2.out.shape
      obtain ⟨m, hm⟩ : ∃ m, m = R.length := ⟨_, rfl⟩
      rw [← hm] at HR2 HRL ⊢
      have hm30 : m ≤ 30 := HRL.out
      have HML : Hid (m = R.length) := hm
      clear hm
      go_wp2_with fail
      go_loopw [5] (fun i wr => ∃ j : Nat, i = .int .i64 (j : Nat) ∧ j ≤ m ∧ Hid (Below w2.heap.size w2 wr)) (fun i _ => m - (intOf i).toNat)
      case atStart => exact ⟨0, rfl, Nat.zero_le _, Below.refl _ _⟩
      case round =>
        obtain ⟨q, rfl, hq, HB⟩ := hrel
        by_cases hlt2 : q < m
        · obtain ⟨rh, rp, rn, hr⟩ := row_at10 (R := R) (j := q) (by rw [← HML.out]; exact hlt2)
          obtain ⟨ub, uo, rfl, hub, huc⟩ := HR2.out.addr (by omega)
          have HSK : Hid (∀ W, Below w2.heap.size w2 W → W.cell? ⟨ub, uo + q * 3, none⟩ = some (.int .i64 rh) ∧ W.cell? ⟨ub, uo + q * 3 + 1, none⟩ = some (.int .i64 rp) ∧ W.cell? ⟨ub, uo + q * 3 + 2, none⟩ = some (.int .i64 (rn : Nat))) := fun W hW => ⟨(hW.cell (p := ⟨ub, uo + q * 3, none⟩) hub).trans (huc q _ hr).1, (hW.cell (p := ⟨ub, uo + q * 3 + 1, none⟩) hub).trans (huc q _ hr).2.1, (hW.cell (p := ⟨ub, uo + q * 3 + 2, none⟩) hub).trans (huc q _ hr).2.2⟩
          have hmem : (⟨rh, rp, rn⟩ : Rw) ∈ R := List.mem_of_getElem? hr
          have HMO := HOF.out.more hmem
          have HFI := isR_iff.1 (HALL.out _ (sortR_mem.1 (HOF.out.first hmem)))
          have HFL := isR_iff.1 (HALL.out _ (sortR_mem.1 (HOF.out.final hmem)))
          have hsm := HOF.out.some1 _ hmem
          simp only at HMO HFI HFL hsm
          rw [sortR_mem, sortR_mem] at HMO
          have HIN : Hid (∀ i : Nat, i < rn → (rh, rp + (i : Int)) ∈ c0) := fun i hi => sortR_mem.1 ((HOF.out.cov _).2 ⟨_, hmem, rfl, by simp only; omega, by simp only; omega⟩)
          have HH1 : Hid (∀ W, Below w2.heap.size w2 W → Calls Try.prog 17 #[.slice a0 len0 cap0, .agg #[.int .i64 rh, .int .i64 (rp + (rn : Nat))]] W fun e w' => e = .returned (.bool false) ∧ Below W.heap.size W w') := fun W hW => by
            have := has_any W _ c0 rh (rp + (rn : Nat)) (HK2.out.kept hW)
            rwa [show hasK c0 (rh, rp + (rn : Nat)) = false from decide_eq_false HMO.1] at this
          have HH2 : Hid (∀ W, Below w2.heap.size w2 W → Calls Try.prog 17 #[.slice a0 len0 cap0, .agg #[.int .i64 rh, .int .i64 (rp - 1)]] W fun e w' => e = .returned (.bool false) ∧ Below W.heap.size W w') := fun W hW => by
            have := has_any W _ c0 rh (rp - 1) (HK2.out.kept hW)
            rwa [show hasK c0 (rh, rp - 1) = false from decide_eq_false HMO.2] at this
          have HH3 : Hid (∀ i : Nat, i < rn → ∀ W, Below w2.heap.size w2 W → Calls Try.prog 17 #[.slice a0 len0 cap0, .agg #[.int .i64 rh, .int .i64 (rp + (i : Nat))]] W fun e w' => e = .returned (.bool true) ∧ Below W.heap.size W w') := fun i hi W hW => by
            have := has_any W _ c0 rh (rp + (i : Nat)) (HK2.out.kept hW)
            rwa [show hasK c0 (rh, rp + (i : Nat)) = true from decide_eq_true (HIN.out i hi)] at this
          obtain ⟨s0, s1, s2⟩ := HSK.out wr HB.out
          have hp0 : 0 ≤ rp := HFI.2.2.1
          have hp1 : rp + (rn : Int) ≤ 4096 := by have := HFL.2.2.2; omega
          have hp2 : rp ≤ 4095 := HFI.2.2.2
          have hrn0 : rn ≤ 4096 := by omega
          clear hr hub huc hmem HMO HFI HFL hsm HIN
          have HB0 : Hid (Below wr.heap.size wr wr.drew) := below_dr1 wr
          have HSA : Hid (∀ o, (wr.alloc o).drew.cell? ⟨ub, uo + q * 3, none⟩ = some (.int .i64 rh) ∧ (wr.alloc o).drew.cell? ⟨ub, uo + q * 3 + 1, none⟩ = some (.int .i64 rp) ∧ (wr.alloc o).drew.cell? ⟨ub, uo + q * 3 + 2, none⟩ = some (.int .i64 (rn : Nat))) := fun o => HSK.out _ (HB.out.alloc HB.out.size o |>.trans (below_dr1 _ |>.mono (by have := HB.out.size; simp; omega)))
          go_wp2_with fail
          go_region_held3 (fun w' => w'.cell? ⟨ub, uo + q * 3, none⟩ = some (.int .i64 rh) ∧ w'.cell? ⟨ub, uo + q * 3 + 1, none⟩ = some (.int .i64 rp) ∧ w'.cell? ⟨ub, uo + q * 3 + 2, none⟩ = some (.int .i64 (rn : Nat))) (first | exact ⟨s0, s1, s2⟩ | exact HSA.out _) (fail)
          have e1 : IntKind.i64.wrap (rp + (rn : Int)) = rp + (rn : Int) := by rw [IntKind.wrap_i64]; omega
          rw [e1]
          clear e1
          have HBA : Hid (Below w2.heap.size w2 (wr.alloc (.cells #[.int .i64 rh, .int .i64 (rp + (rn : Int))] 23)).drew) := HB.out.alloc HB.out.size _ |>.trans (below_dr1 _ |>.mono (by have := HB.out.size; simp; omega))
          obtain ⟨x0, hx0⟩ : ∃ x0, x0 = wr.heap.size := ⟨_, rfl⟩
          have d0 : (wr.alloc (.cells #[.int .i64 rh, .int .i64 (rp + (rn : Int))] 23)).drew.cell? ⟨wr.heap.size, 0, none⟩ = some (.int .i64 rh) := (new_cells wr _ _ _ _ rfl).1
          have d1 : (wr.alloc (.cells #[.int .i64 rh, .int .i64 (rp + (rn : Int))] 23)).drew.cell? ⟨wr.heap.size, 1, none⟩ = some (.int .i64 (rp + (rn : Int))) := (new_cells wr _ _ _ _ rfl).2
          clear HSA HB0 s0 s1 s2
          generalize (wr.alloc (.cells #[.int .i64 rh, .int .i64 (rp + (rn : Int))] 23)).drew = W1 at *
          rw [← hx0] at d0 d1 ⊢
          clear hx0 HB
          obtain ⟨s0, s1, s2⟩ := HSK.out W1 HBA.out
          have HSA : Hid (∀ o, (W1.alloc o).drew.cell? ⟨ub, uo + q * 3, none⟩ = some (.int .i64 rh) ∧ (W1.alloc o).drew.cell? ⟨ub, uo + q * 3 + 1, none⟩ = some (.int .i64 rp) ∧ (W1.alloc o).drew.cell? ⟨ub, uo + q * 3 + 2, none⟩ = some (.int .i64 (rn : Nat))) := fun o => HSK.out _ (HBA.out.alloc HBA.out.size o |>.trans (below_dr1 _ |>.mono (by have := HBA.out.size; simp; omega)))
          go_wp2_with fail
          go_region_held3 (fun w' => w'.cell? ⟨ub, uo + q * 3, none⟩ = some (.int .i64 rh) ∧ w'.cell? ⟨ub, uo + q * 3 + 1, none⟩ = some (.int .i64 rp) ∧ w'.cell? ⟨ub, uo + q * 3 + 2, none⟩ = some (.int .i64 (rn : Nat))) (first | exact ⟨s0, s1, s2⟩ | exact HSA.out _) (fail)
          have e1 : IntKind.i64.wrap (rp - 1) = rp - 1 := by rw [IntKind.wrap_i64]; omega
          rw [e1]
          clear e1
          have HBB : Hid (Below w2.heap.size w2 (W1.alloc (.cells #[.int .i64 rh, .int .i64 (rp - 1)] 23)).drew) := HBA.out.alloc HBA.out.size _ |>.trans (below_dr1 _ |>.mono (by have := HBA.out.size; simp; omega))
          obtain ⟨x1, hx1⟩ : ∃ x1, x1 = W1.heap.size := ⟨_, rfl⟩
          have HDB : Hid (Below W1.heap.size W1 (W1.alloc (.cells #[.int .i64 rh, .int .i64 (rp - 1)] 23)).drew) := (Below.refl _ _).alloc (Nat.le_refl _) _ |>.trans ⟨rfl, rfl, rfl, Nat.le_refl _, fun _ _ => rfl⟩
          have g0 : (W1.alloc (.cells #[.int .i64 rh, .int .i64 (rp - 1)] 23)).drew.cell? ⟨x0, 0, none⟩ = some (.int .i64 rh) := (HDB.out.cell (block_lt_of_cell d0)).trans d0
          have g1 : (W1.alloc (.cells #[.int .i64 rh, .int .i64 (rp - 1)] 23)).drew.cell? ⟨x0, 1, none⟩ = some (.int .i64 (rp + (rn : Int))) := (HDB.out.cell (block_lt_of_cell d1)).trans d1
          have g2 : (W1.alloc (.cells #[.int .i64 rh, .int .i64 (rp - 1)] 23)).drew.cell? ⟨W1.heap.size, 0, none⟩ = some (.int .i64 rh) := (new_cells W1 _ _ _ _ rfl).1
          have g3 : (W1.alloc (.cells #[.int .i64 rh, .int .i64 (rp - 1)] 23)).drew.cell? ⟨W1.heap.size, 1, none⟩ = some (.int .i64 (rp - 1)) := (new_cells W1 _ _ _ _ rfl).2
          clear HSA HDB s0 s1 s2 d0 d1
          generalize (W1.alloc (.cells #[.int .i64 rh, .int .i64 (rp - 1)] 23)).drew = W2 at *
          rw [← hx1] at g2 g3 ⊢
          clear hx1 HBA
          go_wp2_with fail
          refine (HH1.out W2 HBB.out).mono ?_
          rintro e w5 ⟨rfl, hB5⟩
          have HB5 : Hid (Below w2.heap.size w2 w5) := HBB.out.trans (hB5.mono HBB.out.size)
          have i2 : w5.cell? ⟨x1, 0, none⟩ = some (.int .i64 rh) := (hB5.cell (block_lt_of_cell g2)).trans g2
          have i3 : w5.cell? ⟨x1, 1, none⟩ = some (.int .i64 (rp - 1)) := (hB5.cell (block_lt_of_cell g3)).trans g3
          clear hB5 HBB g0 g1 g2 g3
          go_wp2_with fail
          refine (HH2.out w5 HB5.out).mono ?_
          rintro e w6 ⟨rfl, hB6⟩
          have HB6 : Hid (Below w2.heap.size w2 w6) := HB5.out.trans (hB6.mono HB5.out.size)
          clear hB6 HB5 i2 i3 HH1 HH2
          go_wp2_with fail
          go_loopw [8] (fun i wr => ∃ k : Nat, i = .int .i64 (k : Nat) ∧ k ≤ rn ∧ Hid (Below w2.heap.size w2 wr)) (fun i _ => rn - (intOf i).toNat)
          case atStart => exact ⟨0, rfl, Nat.zero_le _, HB6.out⟩
          case round =>
            obtain ⟨k, rfl, hk, HBI⟩ := hrel
            obtain ⟨s0, s1, s2⟩ := HSK.out wr HBI.out
            by_cases hlt3 : k < rn
            · have p0 := cell_regrown s0
              have p1 := cell_regrown s1
              have p2 := cell_regrown s2
              have hcall : ∀ d os, Calls Try.prog 17 #[.slice a0 len0 cap0, .agg #[.int .i64 rh, .int .i64 (rp + (k : Nat))]] (Sort.grow (redrawn wr d) os) fun e w'' => e = .returned (.bool true) ∧ ∃ p : Regrown, w'' = Sort.grow (redrawn wr p.d) p.os := fun d os => Calls.regrown_of (HH3.out k hlt3 _ (HBI.out.trans ((below_regrown wr d os).mono HBI.out.size)))
              go_wp2_with fail
              have hwk : IntKind.i64.wrap (rp + (k : Int)) = rp + (k : Int) := by rw [IntKind.wrap_i64]; omega
              refine wp_region_quiet_below Try.mixed10 (by kernel_rfl) ?_
              repeat (quiet_step (first | (go_at_call 17; with_reducible exact hcall _ _)))
              refine wpQuiet_nil ?_
              intro _ hw'
              obtain ⟨⟨dq, osq⟩, hw''⟩ := hw'
              subst hw''
              dsimp only
              have HBJ : Hid (Below w2.heap.size w2 (Sort.grow (redrawn wr dq) osq)) := HBI.out.trans ((below_regrown wr dq osq).mono HBI.out.size)
              generalize Sort.grow (redrawn wr dq) osq = W3 at *
              clear p0 p1 p2 hcall hwk HBI s0 s1 s2
              go_wp2_with fail
              go_roundw
              case rel => exact ⟨k + 1, by go_num, by omega, HBJ.out⟩
              case measure => simp [intOf]; omega
            · go_wp2_with fail
              go_roundw
              case rel => exact ⟨q + 1, by go_num, by omega, HBI.out⟩
              case measure => simp [intOf]; omega
        · have HBF : Hid (Below w.heap.size w wr) := HB2.out.trans (HB.out.mono HB2.out.size)
          go_wp2
          go_ret
          exact ⟨rfl, HBF.out⟩
end Go.Proofs.Ytpnncdidbifbaaa
