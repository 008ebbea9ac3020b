/- The document's Runs of keys. -/
import Derived.Test.YtpnncdidbifbaaaRuns10
import Derived.Test.YtpnncdidbifbaaaRefSort10
namespace Go.Proofs.Ytpnncdidbifbaaa
open Go.RowKit Go.Maps
set_option linter.unusedVariables false

set_option maxRecDepth 20000 in
set_option maxHeartbeats 4000000 in
theorem refRuns_any (w : World) (v : Value) (ks : List Ky) (hv : Keys w v ks) (hl : ks.length ≤ 1000) :
    Calls Try.prog 21 #[v] w fun e w' => ∃ u, e = .returned u ∧ Rws w' u (runsR (sortR ks)) ∧ Below w.heap.size w w' := by
  have HSO : Hid (Calls Try.prog 19 #[v] w fun e w' => ∃ u, e = .returned u ∧ Keys w' u (sortR ks) ∧ Below w.heap.size w w' ∧ ∀ g, u.ownBlock = some g → w.heap.size ≤ g) := refSort_any w v ks hv hl
  have HSL : Hid ((sortR ks).length ≤ 1000) := Nat.le_trans (sortR_len ks) hl
  obtain ⟨i0, hi, hz0, hz1, hz2⟩ := info_r
  clear hv hl
  generalize hS : sortR ks = S at *
  clear hS
  go_enter Try.func21, Try.ntmps21
  go_wp2_with fail
  refine HSO.out.mono ?_
  rintro e w1 ⟨u, rfl, hK, hB, _⟩
  obtain ⟨a, ca, rfl⟩ := hK.shape
  obtain ⟨n, hn⟩ : ∃ n, n = S.length := ⟨_, rfl⟩
  rw [← hn] at hK HSL ⊢
  have hn1 : n ≤ 1000 := HSL.out
  have HN : Hid (n = S.length) := hn
  have HV : Hid (Keys w1 (.slice a n ca) S) := hK
  have HB1 : Hid (Below w.heap.size w w1) := hB
  clear hn hK hB HSO
  go_wp2_with fail
  go_loopw [4, 5] (fun v i wr => ∃ k : Nat, i = .int .i64 (k : Nat) ∧ k ≤ n ∧ wr.ownsRow w1.heap.size 43 3 v (runsR (S.take k)).length (rcells (runsR (S.take k))) ∧ Hid (Below w1.heap.size w1 wr) ∧ Hid (v = .slice none 0 0 ∨ 0 < (runsR (S.take k)).length)) (fun _ i _ => n - (intOf i).toNat)
  case atStart => exact ⟨0, rfl, Nat.zero_le _, World.ownsRow_nil _ _ _ _, Below.refl _ _, .inl rfl⟩
  case round =>
    obtain ⟨k, rfl, hk, hrow, HB, HNZ⟩ := hrel
    have HRO : Hid (wr.ownsRow w1.heap.size 43 3 u4 (runsR (S.take k)).length (rcells (runsR (S.take k)))) := hrow
    clear hrow
    by_cases hlt : k < n
    · obtain ⟨b, off, rfl, hb, hc⟩ := HV.out.addr (by omega)
      obtain ⟨h, p, hkk⟩ := key_at (ks := S) (j := k) (by rw [← HN.out]; exact hlt)
      have HCK : Hid (∀ W, Below w1.heap.size w1 W → W.cell? ⟨b, off + k * 2, none⟩ = some (.int .i64 h) ∧ W.cell? ⟨b, off + k * 2 + 1, none⟩ = some (.int .i64 p)) := fun W hW => ⟨(hW.cell (p := ⟨b, off + k * 2, none⟩) hb).trans (hc k _ hkk).1, (hW.cell (p := ⟨b, off + k * 2 + 1, none⟩) hb).trans (hc k _ hkk).2⟩
      have c0 := (HCK.out wr HB.out).1
      have c1 := (HCK.out wr HB.out).2
      have HI : Hid (KI (h, p)) := HV.out.fit hkk
      have HTS : Hid (runsR (S.take (k + 1)) = rstep (runsR (S.take k)) (h, p)) := by unfold Hid; rw [take_snoc hkk, runsR_snoc]
      have HPG : Hid (pages (runsR (S.take k)) ≤ 1000 ∧ (runsR (S.take k)).length ≤ 1000) := by
        have h1 := pages_runs (S.take k)
        have h2 := runs_len (S.take k)
        rw [List.length_take] at h1 h2
        exact ⟨by omega, by omega⟩
      clear hc hb hkk
      generalize hR : runsR (S.take k) = R at *
      clear hR
      rcases List.eq_nil_or_concat R with rfl | ⟨l, r, hRl⟩
      · have hu4 : u4 = .slice none 0 0 := HNZ.out.resolve_right (by simp)
        subst hu4
        have HE : Hid (runsR (S.take (k + 1)) = [⟨h, p, 1⟩]) := HTS.out
        clear HTS HNZ
        go_wp2_with fail
        go_quiet (fail)
        have HWB : Hid (Below w1.heap.size w1 (wr.drewN nq)) := HB.out.trans ((below_dr wr nq).mono HB.out.size)
        have HWO : Hid ((wr.drewN nq).ownsRow w1.heap.size 43 3 (.slice none 0 0) 0 (rcells [])) := HRO.out.kept (grown_below (below_dr wr nq)) (by simp [Value.ownBlock])
        generalize wr.drewN nq = wz at *
        have x0 := (HCK.out wz HWB.out).1
        have x1 := (HCK.out wz HWB.out).2
        have HWS : Hid (w1.heap.size ≤ wz.heap.size) := HWB.out.size
        clear HRO HB
        go_wp2_with (first
          | (at_builtin; refine wpList_append_run wz rfl _ _ 39 (by rfl) w1.heap.size 43 43 i0 Try.underlying39 hi hz0 hz1 hz2 (.slice none 0 0) 0 [] (by rfl) HWO.out h p 1 1 rfl (by rfl) (by omega) HWS.out ?_; intro v7 w7 hown7 hg7; have HO7 : Hid (w7.ownsRow w1.heap.size 43 3 v7 (0 + 1) (rcells ([] ++ [⟨h, p, 1⟩]))) := hown7; have HB7 : Hid (Below w1.heap.size w1 w7) := (HWB.out.alloc HWS.out _).grown hg7 (by have := HWS.out; simp; omega) (fun j hj => (HWO.out.lt j hj).1); clear hown7 hg7; go_frame)
          | go_in)
        have HFIN : Hid (w7.ownsRow w1.heap.size 43 3 v7 (runsR (S.take (k + 1))).length (rcells (runsR (S.take (k + 1))))) := by
          have := HO7.out
          rw [HE.out]
          exact this
        have HNF : Hid (v7 = .slice none 0 0 ∨ 0 < (runsR (S.take (k + 1))).length) := .inr (by rw [HE.out]; simp)
        go_roundw
        case rel => exact ⟨k + 1, by go_num, by omega, HFIN.out, HB7.out, HNF.out⟩
        case measure => simp [intOf]; omega
      · obtain ⟨rh, rp, rn⟩ := r
        rw [List.concat_eq_append] at hRl
        subst hRl
        have hrn : rn ≤ 1000 := by
          have := pages_mem (l := l ++ [⟨rh, rp, rn⟩]) (r := ⟨rh, rp, rn⟩) (by simp)
          have := HPG.out.1
          simp only at *
          omega
        obtain ⟨q, hq⟩ : ∃ q, q = l.length := ⟨_, rfl⟩
        obtain ⟨L, hL⟩ : ∃ L, L = q + 1 := ⟨_, rfl⟩
        have hlen : (l ++ [(⟨rh, rp, rn⟩ : Rw)]).length = L := by rw [hL, hq]; simp
        have HLEN : Hid ((l ++ [(⟨rh, rp, rn⟩ : Rw)]).length = L) := hlen
        rw [hlen] at HRO HPG
        clear hlen
        have hq1 : L ≤ 1000 := HPG.out.2
        have hqL : q < L := by omega
        have hqL2 : (L : Int) - 1 = (q : Nat) := by omega
        clear hL
        have HQ : Hid (l.length = q) := hq.symm
        clear hq HNZ HPG
        rcases HRO.out.2 with ⟨_, h0⟩ | ⟨g, cap, cur, rfl, hbase, hbl, _⟩
        · omega
        have HGB : Hid (w1.heap.size ≤ g) := hbase
        clear hbase hbl
        have HRC := rows_cells HRO.out HQ.out
        simp only at HRC
        obtain ⟨z2, z3, z4, z5⟩ := HRC
        by_cases e1 : rh = h
        · subst e1
          by_cases e2 : wrap64 (rp + (rn : Nat)) = p
          · have HE : Hid (runsR (S.take (k + 1)) = l ++ [⟨rh, rp, rn + 1⟩]) := HTS.out.trans (rstep_more rfl rfl e2)
            have hsum : wrap64 (rp + ((rn : Nat) : Int)) = p := e2
            clear HTS e2
            go_wp2_with fail
            go_quiet (fail)
            have HWB : Hid (Below w1.heap.size w1 (wr.drewN nq)) := HB.out.trans ((below_dr wr nq).mono HB.out.size)
            have HWO : Hid ((wr.drewN nq).ownsRow w1.heap.size 43 3 (.slice (some ⟨g, 0, none⟩) L cap) L (rcells (l ++ [⟨rh, rp, rn⟩]))) := HRO.out.kept (grown_below (below_dr wr nq)) (by simp [Value.ownBlock])
            have y4 : (wr.drewN nq).cell? ⟨g, q * 3 + 2, none⟩ = some (.int .i64 (rn : Nat)) := z4
            have y5 : (wr.drewN nq).frozen? ⟨g, q * 3 + 2, none⟩ = false := z5
            generalize wr.drewN nq = wz at *
            clear z2 z3 z4 z5 c0 c1 HRO HB
            go_wp2_with fail
            have HO7 : Hid ((wz.setCell ⟨g, q * 3 + 2, none⟩ (.int .i64 ((rn : Nat) + 1))).ownsRow w1.heap.size 43 3 (.slice (some ⟨g, 0, none⟩) L cap) (runsR (S.take (k + 1))).length (rcells (runsR (S.take (k + 1))))) := by
              have := rows_longer HWO.out HQ.out (rn + 1)
              rw [HE.out, List.length_append]
              rw [← HLEN.out] at this ⊢
              rw [List.length_append] at this ⊢
              exact this
            have HB7 : Hid (Below w1.heap.size w1 (wz.setCell ⟨g, q * 3 + 2, none⟩ (.int .i64 ((rn : Nat) + 1)))) := HWB.out.setCell HGB.out _
            have HNF : Hid (Value.slice (some ⟨g, 0, none⟩) L cap = .slice none 0 0 ∨ 0 < (runsR (S.take (k + 1))).length) := .inr (by rw [HE.out]; simp)
            go_roundw
            case rel => exact ⟨k + 1, by go_num, by omega, HO7.out, HB7.out, HNF.out⟩
            case measure => simp [intOf]; omega
          · have HE : Hid (runsR (S.take (k + 1)) = l ++ [⟨rh, rp, rn⟩] ++ [⟨rh, p, 1⟩]) := HTS.out.trans (rstep_new rfl (fun e => e2 e.2))
            have hd : decide (wrap64 (rp + ((rn : Nat) : Int)) = p) = false := decide_eq_false e2
            have hd2 : (wrap64 (rp + ((rn : Nat) : Int)) == p) = false := by simpa using e2
            clear HTS
            go_wp2_with fail
            go_quiet (fail)
            clear z2 z3 z4 z5 c0 c1
            have HWB : Hid (Below w1.heap.size w1 (wr.drewN nq)) := HB.out.trans ((below_dr wr nq).mono HB.out.size)
            have HWO : Hid ((wr.drewN nq).ownsRow w1.heap.size 43 3 (.slice (some ⟨g, 0, none⟩) L cap) L (rcells (l ++ [⟨rh, rp, rn⟩]))) := HRO.out.kept (grown_below (below_dr wr nq)) (by simp [Value.ownBlock])
            generalize wr.drewN nq = wz at *
            have x0 := (HCK.out wz HWB.out).1
            have x1 := (HCK.out wz HWB.out).2
            have HWS : Hid (w1.heap.size ≤ wz.heap.size) := HWB.out.size
            clear HRO HB
            go_wp2_with (first
              | (at_builtin; refine wpList_append_run wz rfl _ _ 39 (by rfl) w1.heap.size 43 43 i0 Try.underlying39 hi hz0 hz1 hz2 (.slice (some ⟨g, 0, none⟩) L cap) L (l ++ [⟨rh, rp, rn⟩]) (by rfl) HWO.out rh p 1 1 rfl (by rfl) (by omega) HWS.out ?_; intro v7 w7 hown7 hg7; have HO7 : Hid (w7.ownsRow w1.heap.size 43 3 v7 (L + 1) (rcells ((l ++ [⟨rh, rp, rn⟩]) ++ [⟨rh, p, 1⟩]))) := hown7; have HB7 : Hid (Below w1.heap.size w1 w7) := (HWB.out.alloc HWS.out _).grown hg7 (by have := HWS.out; simp; omega) (fun j hj => (HWO.out.lt j hj).1); clear hown7 hg7; go_frame)
              | go_in)
            have HFIN : Hid (w7.ownsRow w1.heap.size 43 3 v7 (runsR (S.take (k + 1))).length (rcells (runsR (S.take (k + 1))))) := by
              have := HO7.out
              rw [HE.out]
              rw [List.length_append, HLEN.out]; exact this
            have HNF : Hid (v7 = .slice none 0 0 ∨ 0 < (runsR (S.take (k + 1))).length) := .inr (by rw [HE.out]; simp)
            go_roundw
            case rel => exact ⟨k + 1, by go_num, by omega, HFIN.out, HB7.out, HNF.out⟩
            case measure => simp [intOf]; omega
        · have HE : Hid (runsR (S.take (k + 1)) = l ++ [⟨rh, rp, rn⟩] ++ [⟨h, p, 1⟩]) := HTS.out.trans (rstep_new rfl (fun e => e1 e.1))
          have hcmp : (rh = h) = False := eq_false e1
          clear HTS e1
          go_wp2_with fail
          go_quiet (fail)
          clear z2 z3 z4 z5 c0 c1
          have HWB : Hid (Below w1.heap.size w1 (wr.drewN nq)) := HB.out.trans ((below_dr wr nq).mono HB.out.size)
          have HWO : Hid ((wr.drewN nq).ownsRow w1.heap.size 43 3 (.slice (some ⟨g, 0, none⟩) L cap) L (rcells (l ++ [⟨rh, rp, rn⟩]))) := HRO.out.kept (grown_below (below_dr wr nq)) (by simp [Value.ownBlock])
          generalize wr.drewN nq = wz at *
          have x0 := (HCK.out wz HWB.out).1
          have x1 := (HCK.out wz HWB.out).2
          have HWS : Hid (w1.heap.size ≤ wz.heap.size) := HWB.out.size
          clear HRO HB
          go_wp2_with (first
            | (at_builtin; refine wpList_append_run wz rfl _ _ 39 (by rfl) w1.heap.size 43 43 i0 Try.underlying39 hi hz0 hz1 hz2 (.slice (some ⟨g, 0, none⟩) L cap) L (l ++ [⟨rh, rp, rn⟩]) (by rfl) HWO.out h p 1 1 rfl (by rfl) (by omega) HWS.out ?_; intro v7 w7 hown7 hg7; have HO7 : Hid (w7.ownsRow w1.heap.size 43 3 v7 (L + 1) (rcells ((l ++ [⟨rh, rp, rn⟩]) ++ [⟨h, p, 1⟩]))) := hown7; have HB7 : Hid (Below w1.heap.size w1 w7) := (HWB.out.alloc HWS.out _).grown hg7 (by have := HWS.out; simp; omega) (fun j hj => (HWO.out.lt j hj).1); clear hown7 hg7; go_frame)
            | go_in)
          have HFIN : Hid (w7.ownsRow w1.heap.size 43 3 v7 (runsR (S.take (k + 1))).length (rcells (runsR (S.take (k + 1))))) := by
            have := HO7.out
            rw [HE.out]
            rw [List.length_append, HLEN.out]; exact this
          have HNF : Hid (v7 = .slice none 0 0 ∨ 0 < (runsR (S.take (k + 1))).length) := .inr (by rw [HE.out]; simp)
          go_roundw
          case rel => exact ⟨k + 1, by go_num, by omega, HFIN.out, HB7.out, HNF.out⟩
          case measure => simp [intOf]; omega
    · have HKs : Hid (Rws wr u4 (runsR S)) := by
        have h1 := HRO.out
        rw [List.take_of_length_le (by rw [← HN.out]; omega)] at h1
        exact Rws.ofOwn h1
      have HBF : Hid (Below w.heap.size w wr) := HB1.out.trans (HB.out.mono HB1.out.size)
      go_wp2
      go_ret
      exact ⟨_, rfl, HKs.out, HBF.out⟩
end Go.Proofs.Ytpnncdidbifbaaa
