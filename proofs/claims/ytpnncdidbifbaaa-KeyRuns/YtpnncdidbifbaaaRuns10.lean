/- Runs of package key. -/
import Derived.Test.YtpnncdidbifbaaaPgRow10
import Derived.Deep.RegionHeld3
namespace Go.Proofs.Ytpnncdidbifbaaa
open Go.RowKit Go.Maps
set_option linter.unusedVariables false

theorem rstep_more {out : List Rw} {k : Ky} {l : List Rw} {r : Rw} (ho : out = l ++ [r]) (h1 : r.h = k.1) (h2 : wrap64 (r.p + (r.n : Int)) = k.2) : rstep out k = l ++ [⟨r.h, r.p, r.n + 1⟩] := by
  rcases rstep_cases out k with ⟨l', r', e, _, _, e2⟩ | ⟨_, e2⟩
  · obtain ⟨rfl, e3⟩ := List.append_inj' (ho.symm.trans e) rfl
    simp only [List.cons.injEq, and_true] at e3
    rw [e2, e3]
  · exact absurd ⟨h1, h2⟩ (e2 l r ho)
theorem rstep_new {out : List Rw} {k : Ky} {l : List Rw} {r : Rw} (ho : out = l ++ [r]) (h : ¬ (r.h = k.1 ∧ wrap64 (r.p + (r.n : Int)) = k.2)) : rstep out k = out ++ [⟨k.1, k.2, 1⟩] := by
  rcases rstep_cases out k with ⟨l', r', e, h1, h2, e2⟩ | ⟨e, _⟩
  · obtain ⟨rfl, e3⟩ := List.append_inj' (ho.symm.trans e) rfl
    simp only [List.cons.injEq, and_true] at e3
    rw [← e3] at h1 h2
    exact absurd ⟨h1, h2⟩ h
  · exact e
theorem rstep_first (k : Ky) : rstep [] k = [⟨k.1, k.2, 1⟩] := rfl
theorem held5 {a b c d e f : Prop} (h : a ∧ b ∧ c ∧ d ∧ e ∧ f) : a ∧ b ∧ c ∧ d ∧ e := ⟨h.1, h.2.1, h.2.2.1, h.2.2.2.1, h.2.2.2.2.1⟩
set_option maxRecDepth 20000 in
set_option maxHeartbeats 4000000 in
theorem runs_any (w : World) (v : Value) (ks : List Ky) (hv : Keys w v ks) (hl : ks.length ≤ 1000) :
    Calls Try.prog 20 #[v] w fun e w' => ∃ u, e = .returned u ∧ Rws w' u (runsR (sortR ks)) ∧ Below w.heap.size w w' := by
  have HSO : Hid (Calls Try.prog 14 #[v] w fun e w' => ∃ u, e = .returned u ∧ Keys w' u (sortR ks) ∧ Below w.heap.size w w' ∧ ∀ g, u.ownBlock = some g → w.heap.size ≤ g) := sort_any w v ks hv hl
  have HSL : Hid ((sortR ks).length ≤ 1000) := Nat.le_trans (sortR_len ks) hl
  obtain ⟨i0, hi, hz0, hz1, hz2⟩ := info_r
  clear hv hl
  generalize hS : sortR ks = S at *
  clear hS
  go_enter Try.func20, Try.ntmps20
  go_wp2_with fail
  refine HSO.out.mono ?_
  rintro e w1 ⟨u, rfl, hK, hB, _⟩
  obtain ⟨a, ca, rfl⟩ := hK.shape
  obtain ⟨n, hn⟩ : ∃ n, n = S.length := ⟨_, rfl⟩
  rw [← hn] at hK HSL ⊢
  have hn1 : n ≤ 1000 := HSL.out
  have HN : Hid (n = S.length) := hn
  have HV : Hid (Keys w1 (.slice a n ca) S) := hK
  have HB1 : Hid (Below w.heap.size w w1) := hB
  clear hn hK hB HSO
  go_wp2_with fail
  go_loopw [3, 10] (fun v i wr => ∃ k : Nat, i = .int .i64 (k : Nat) ∧ k ≤ n ∧ wr.ownsRow w1.heap.size 43 3 v (runsR (S.take k)).length (rcells (runsR (S.take k))) ∧ Hid (Below w1.heap.size w1 wr) ∧ Hid (v = .slice none 0 0 ∨ 0 < (runsR (S.take k)).length)) (fun _ i _ => n - (intOf i).toNat)
  case atStart => exact ⟨0, rfl, Nat.zero_le _, World.ownsRow_nil _ _ _ _, Below.refl _ _, .inl rfl⟩
  case round =>
    obtain ⟨k, rfl, hk, hrow, HB, HNZ⟩ := hrel
    have HRO : Hid (wr.ownsRow w1.heap.size 43 3 u3 (runsR (S.take k)).length (rcells (runsR (S.take k)))) := hrow
    clear hrow
    by_cases hlt : k < n
    · obtain ⟨b, off, rfl, hb, hc⟩ := HV.out.addr (by omega)
      obtain ⟨h, p, hkk⟩ := key_at (ks := S) (j := k) (by rw [← HN.out]; exact hlt)
      have c0 : wr.cell? ⟨b, off + k * 2, none⟩ = some (.int .i64 h) := (HB.out.cell (p := ⟨b, off + k * 2, none⟩) hb).trans (hc k _ hkk).1
      have c1 : wr.cell? ⟨b, off + k * 2 + 1, none⟩ = some (.int .i64 p) := (HB.out.cell (p := ⟨b, off + k * 2 + 1, none⟩) hb).trans (hc k _ hkk).2
      have HI : Hid (KI (h, p)) := HV.out.fit hkk
      have HTS : Hid (runsR (S.take (k + 1)) = rstep (runsR (S.take k)) (h, p)) := by unfold Hid; rw [take_snoc hkk, runsR_snoc]
      have HPG : Hid (pages (runsR (S.take k)) ≤ 1000 ∧ (runsR (S.take k)).length ≤ 1000) := by
        have h1 := pages_runs (S.take k)
        have h2 := runs_len (S.take k)
        rw [List.length_take] at h1 h2
        exact ⟨by omega, by omega⟩
      clear hc hb hkk
      generalize hR : runsR (S.take k) = R at *
      clear hR
      rcases List.eq_nil_or_concat R with rfl | ⟨l, r, hRl⟩
      · -- the first
        have hu3 : u3 = .slice none 0 0 := HNZ.out.resolve_right (by simp)
        subst hu3
        have HE : Hid (runsR (S.take (k + 1)) = [⟨h, p, 1⟩]) := HTS.out
        clear HTS HNZ HRO
        go_wp2_with fail
        go_quiet (fail)
        have hB0 : Below wr.heap.size wr ((wr.alloc (.cells #[.int .i64 h, .int .i64 p] 23)).drewN nq) := ((Below.refl _ _).alloc (Nat.le_refl _) _).trans ⟨rfl, rfl, rfl, Nat.le_refl _, fun _ _ => rfl⟩
        have HWB : Hid (Below w1.heap.size w1 ((wr.alloc (.cells #[.int .i64 h, .int .i64 p] 23)).drewN nq)) := HB.out.trans (hB0.mono HB.out.size)
        have x0 : ((wr.alloc (.cells #[.int .i64 h, .int .i64 p] 23)).drewN nq).cell? ⟨wr.heap.size, 0, none⟩ = some (.int .i64 h) := (new_cells wr _ _ _ _ rfl).1
        have x1 : ((wr.alloc (.cells #[.int .i64 h, .int .i64 p] 23)).drewN nq).cell? ⟨wr.heap.size, 1, none⟩ = some (.int .i64 p) := (new_cells wr _ _ _ _ rfl).2
        clear hB0
        generalize (wr.alloc (.cells #[.int .i64 h, .int .i64 p] 23)).drewN nq = wz at *
        have HWS : Hid (w1.heap.size ≤ wz.heap.size) := HWB.out.size
        have HNIL : Hid (wz.ownsRow w1.heap.size 43 3 (.slice none 0 0) 0 (rcells [])) := World.ownsRow_nil _ _ _ _
        go_wp2_with (first
          | (at_builtin; refine wpList_append_run wz rfl _ _ 39 (by rfl) w1.heap.size 43 43 i0 Try.underlying39 hi hz0 hz1 hz2 (.slice none 0 0) 0 [] (by rfl) HNIL.out h p 1 1 rfl (by rfl) (by omega) HWS.out ?_; intro v7 w7 hown7 hg7; have HO7 : Hid (w7.ownsRow w1.heap.size 43 3 v7 (0 + 1) (rcells ([] ++ [⟨h, p, 1⟩]))) := hown7; have HB7 : Hid (Below w1.heap.size w1 w7) := (HWB.out.alloc HWS.out _).grown hg7 (by have := HWS.out; simp; omega) (fun j hj => (HNIL.out.lt j hj).1); clear hown7 hg7; go_frame)
          | go_in)
        have HFIN : Hid (w7.ownsRow w1.heap.size 43 3 v7 (runsR (S.take (k + 1))).length (rcells (runsR (S.take (k + 1))))) := by
          have := HO7.out
          rw [HE.out]
          exact this
        have HNF : Hid (v7 = .slice none 0 0 ∨ 0 < (runsR (S.take (k + 1))).length) := .inr (by rw [HE.out]; simp)
        go_roundw
        case rel => exact ⟨k + 1, by go_num, by omega, HFIN.out, HB7.out, HNF.out⟩
        case measure => simp [intOf]; omega
      · -- one more
        obtain ⟨rh, rp, rn⟩ := r
        rw [List.concat_eq_append] at hRl
        subst hRl
        have hrn : rn ≤ 1000 := by
          have := pages_mem (l := l ++ [⟨rh, rp, rn⟩]) (r := ⟨rh, rp, rn⟩) (by simp)
          have := HPG.out.1
          simp only at *
          omega
        obtain ⟨q, hq⟩ : ∃ q, q = l.length := ⟨_, rfl⟩
        obtain ⟨L, hL⟩ : ∃ L, L = q + 1 := ⟨_, rfl⟩
        have hlen : (l ++ [(⟨rh, rp, rn⟩ : Rw)]).length = L := by rw [hL, hq]; simp
        have HLEN : Hid ((l ++ [(⟨rh, rp, rn⟩ : Rw)]).length = L) := hlen
        rw [hlen] at HRO HPG
        clear hlen
        have hq1 : L ≤ 1000 := HPG.out.2
        have hqL : q < L := by omega
        have hqL2 : (L : Int) - 1 = (q : Nat) := by omega
        clear hL
        have HQ : Hid (l.length = q) := hq.symm
        clear hq HNZ HPG
        rcases HRO.out.2 with ⟨_, h0⟩ | ⟨g, cap, cur, rfl, hbase, hbl, _⟩
        · omega
        have HGB : Hid (g < wr.heap.size ∧ w1.heap.size ≤ g) := ⟨(Array.getElem?_eq_some_iff.1 hbl).1, hbase⟩
        clear hbase hbl
        have HRC := rows_cells HRO.out HQ.out
        simp only at HRC
        have HRC2 : Hid (wr.cell? ⟨g, q * 3, none⟩ = some (.int .i64 rh) ∧ wr.cell? ⟨g, q * 3 + 1, none⟩ = some (.int .i64 rp) ∧ wr.cell? ⟨g, q * 3 + 2, none⟩ = some (.int .i64 (rn : Nat)) ∧ wr.frozen? ⟨g, q * 3 + 2, none⟩ = false) := HRC
        clear HRC
        obtain ⟨x, hx⟩ : ∃ x, x = wrap64 (rp + (rn : Nat)) := ⟨_, rfl⟩
        have HX : Hid (wrap64 (rp + (rn : Nat)) = x) := hx.symm
        clear hx
        have HBH : Hid (∀ W, Calls Try.prog 25 #[.agg #[.int .i64 rh, .int .i64 rp, .int .i64 (rn : Nat)]] W fun e w' => e = .returned (.agg #[.int .i64 rh, .int .i64 x]) ∧ Below W.heap.size W w') := fun W => behind_any rh rp (rn : Nat) x W HX.out
        obtain ⟨W0, hW⟩ : ∃ W0, W0 = wr.alloc (.cells #[.int .i64 h, .int .i64 p] 23) := ⟨_, rfl⟩
        obtain ⟨X, hXX⟩ : ∃ X, X = wr.heap.size := ⟨_, rfl⟩
        have hB0 : Below wr.heap.size wr W0 := by rw [hW]; exact (Below.refl _ _).alloc (Nat.le_refl _) _
        have HB0 : Hid (Below wr.heap.size wr W0) := hB0
        have HXL : Hid (X < W0.heap.size) := by rw [hW, hXX]; simp [Hid]
        have x0 : W0.cell? ⟨X, 0, none⟩ = some (.int .i64 h) := by rw [hW, hXX]; exact (new_cells wr _ _ _ _ rfl).1
        have x1 : W0.cell? ⟨X, 1, none⟩ = some (.int .i64 p) := by rw [hW, hXX]; exact (new_cells wr _ _ _ _ rfl).2
        have HSK : Hid (∀ w', Below W0.heap.size W0 w' → w'.cell? ⟨X, 0, none⟩ = some (.int .i64 h) ∧ w'.cell? ⟨X, 1, none⟩ = some (.int .i64 p) ∧ w'.cell? ⟨g, q * 3, none⟩ = some (.int .i64 rh) ∧ w'.cell? ⟨g, q * 3 + 1, none⟩ = some (.int .i64 rp) ∧ w'.cell? ⟨g, q * 3 + 2, none⟩ = some (.int .i64 (rn : Nat)) ∧ w'.frozen? ⟨g, q * 3 + 2, none⟩ = false ∧ Below w1.heap.size w1 w' ∧ w'.ownsRow w1.heap.size 43 3 (.slice (some ⟨g, 0, none⟩) L cap) L (rcells (l ++ [⟨rh, rp, rn⟩]))) := fun w' hw => by
          have h1 : Below wr.heap.size wr w' := HB0.out.trans (hw.mono HB0.out.size)
          exact ⟨(hw.cell (p := ⟨X, 0, none⟩) HXL.out).trans x0, (hw.cell (p := ⟨X, 1, none⟩) HXL.out).trans x1, (h1.cell (p := ⟨g, q * 3, none⟩) HGB.out.1).trans HRC2.out.1, (h1.cell (p := ⟨g, q * 3 + 1, none⟩) HGB.out.1).trans HRC2.out.2.1, (h1.cell (p := ⟨g, q * 3 + 2, none⟩) HGB.out.1).trans HRC2.out.2.2.1, (h1.frozen (p := ⟨g, q * 3 + 2, none⟩) HGB.out.1).trans HRC2.out.2.2.2, HB.out.trans (h1.mono HB.out.size), HRO.out.kept (grown_below h1) (Or.inr (by simp [Value.ownBlock]))⟩
        have hz := HSK.out W0 (Below.refl _ _)
        have z2 := hz.2.2.1
        have z3 := hz.2.2.2.1
        have z4 := hz.2.2.2.2.1
        clear hz hB0
        by_cases e1 : rh = h
        · subst e1
          by_cases e2 : x = p
          · subst e2
            have HE : Hid (runsR (S.take (k + 1)) = l ++ [⟨rh, rp, rn + 1⟩]) := HTS.out.trans (rstep_more rfl rfl HX.out)
            clear HTS HX
            go_wp2_with fail
            rw [← hXX, ← hW]
            clear hXX hW
            go_region_held3 (fun w' => w'.cell? ⟨X, 0, none⟩ = some (.int .i64 rh) ∧ w'.cell? ⟨X, 1, none⟩ = some (.int .i64 x) ∧ w'.cell? ⟨g, q * 3, none⟩ = some (.int .i64 rh) ∧ w'.cell? ⟨g, q * 3 + 1, none⟩ = some (.int .i64 rp) ∧ w'.cell? ⟨g, q * 3 + 2, none⟩ = some (.int .i64 (rn : Nat))) (first | exact ⟨x0, x1, z2, z3, z4⟩ | exact held5 (HSK.out _ HBX.out)) (first
              | (go_at_call 25; refine (HBH.out _).mono ?_; rintro e9 wx ⟨rfl, hBX⟩; have HBX : Hid (Below W0.heap.size W0 wx) := ((below_dr1 W0).trans hBX); clear hBX))
            all_goals
              have hall := HSK.out wx HBX.out
              have y4 := hall.2.2.2.2.1
              have y5 := hall.2.2.2.2.2.1
              have HWB : Hid (Below w1.heap.size w1 wx) := hall.2.2.2.2.2.2.1
              have HWO : Hid (wx.ownsRow w1.heap.size 43 3 (.slice (some ⟨g, 0, none⟩) L cap) L (rcells (l ++ [⟨rh, rp, rn⟩]))) := hall.2.2.2.2.2.2.2
              clear hall HSK HBX x0 x1 z2 z3 z4 HB0 HBH
              go_wp2_with fail
              have HO7 : Hid ((wx.setCell ⟨g, q * 3 + 2, none⟩ (.int .i64 ((rn : Nat) + 1))).ownsRow w1.heap.size 43 3 (.slice (some ⟨g, 0, none⟩) L cap) (runsR (S.take (k + 1))).length (rcells (runsR (S.take (k + 1))))) := by
                have := rows_longer HWO.out HQ.out (rn + 1)
                rw [HE.out, List.length_append]
                rw [← HLEN.out] at this ⊢
                rw [List.length_append] at this ⊢
                exact this
              have HB7 : Hid (Below w1.heap.size w1 (wx.setCell ⟨g, q * 3 + 2, none⟩ (.int .i64 ((rn : Nat) + 1)))) := HWB.out.setCell HGB.out.2 _
              have HNF : Hid (Value.slice (some ⟨g, 0, none⟩) L cap = .slice none 0 0 ∨ 0 < (runsR (S.take (k + 1))).length) := .inr (by rw [HE.out]; simp)
              go_roundw
              case rel => exact ⟨k + 1, by go_num, by omega, HO7.out, HB7.out, HNF.out⟩
              case measure => simp [intOf]; omega
          · have HE : Hid (runsR (S.take (k + 1)) = l ++ [⟨rh, rp, rn⟩] ++ [⟨rh, p, 1⟩]) := HTS.out.trans (rstep_new rfl (fun e => e2 (HX.out.symm.trans e.2)))
            have hne : (p == x) = false := by simpa using fun e => e2 e.symm
            clear HTS HX
            go_wp2_with fail
            rw [← hXX, ← hW]
            clear hXX hW
            go_region_held3 (fun w' => w'.cell? ⟨X, 0, none⟩ = some (.int .i64 rh) ∧ w'.cell? ⟨X, 1, none⟩ = some (.int .i64 p) ∧ w'.cell? ⟨g, q * 3, none⟩ = some (.int .i64 rh) ∧ w'.cell? ⟨g, q * 3 + 1, none⟩ = some (.int .i64 rp) ∧ w'.cell? ⟨g, q * 3 + 2, none⟩ = some (.int .i64 (rn : Nat))) (first | exact ⟨x0, x1, z2, z3, z4⟩ | exact held5 (HSK.out _ HBX.out)) (first
              | (go_at_call 25; refine (HBH.out _).mono ?_; rintro e9 wx ⟨rfl, hBX⟩; have HBX : Hid (Below W0.heap.size W0 wx) := ((below_dr1 W0).trans hBX); clear hBX))
            all_goals
              have hall := HSK.out wx HBX.out
              have HWB : Hid (Below w1.heap.size w1 wx) := hall.2.2.2.2.2.2.1
              have HWO : Hid (wx.ownsRow w1.heap.size 43 3 (.slice (some ⟨g, 0, none⟩) L cap) L (rcells (l ++ [⟨rh, rp, rn⟩]))) := hall.2.2.2.2.2.2.2
              have y0 := hall.1
              have y1 := hall.2.1
              have HWS : Hid (w1.heap.size ≤ wx.heap.size) := HWB.out.size
              clear hall HSK HBX x0 x1 z2 z3 z4 HB0 HBH
              go_wp2_with (first
                | (at_builtin; refine wpList_append_run wx rfl _ _ 39 (by rfl) w1.heap.size 43 43 i0 Try.underlying39 hi hz0 hz1 hz2 _ L (l ++ [⟨rh, rp, rn⟩]) (by rfl) HWO.out rh p 1 1 rfl (by rfl) (by omega) HWS.out ?_; intro v7 w7 hown7 hg7; have HO7 : Hid (w7.ownsRow w1.heap.size 43 3 v7 (L + 1) (rcells ((l ++ [⟨rh, rp, rn⟩]) ++ [⟨rh, p, 1⟩]))) := hown7; have HB7 : Hid (Below w1.heap.size w1 w7) := (HWB.out.alloc HWS.out _).grown hg7 (by have := HWS.out; simp; omega) (fun j hj => (HWO.out.lt j hj).1); clear hown7 hg7; go_frame)
                | go_in)
              have HFIN : Hid (w7.ownsRow w1.heap.size 43 3 v7 (runsR (S.take (k + 1))).length (rcells (runsR (S.take (k + 1))))) := by
                have := HO7.out
                rw [HE.out]
                rw [List.length_append, HLEN.out]; exact this
              have HNF : Hid (v7 = .slice none 0 0 ∨ 0 < (runsR (S.take (k + 1))).length) := .inr (by rw [HE.out]; simp)
              go_roundw
              case rel => exact ⟨k + 1, by go_num, by omega, HFIN.out, HB7.out, HNF.out⟩
              case measure => simp [intOf]; omega
        · have HE : Hid (runsR (S.take (k + 1)) = l ++ [⟨rh, rp, rn⟩] ++ [⟨h, p, 1⟩]) := HTS.out.trans (rstep_new rfl (fun e => e1 e.1))
          have hne : (h == rh) = false := by simpa using fun e => e1 e.symm
          clear HTS HX
          go_wp2_with fail
          rw [← hXX, ← hW]
          clear hXX hW
          go_region_held3 (fun w' => w'.cell? ⟨X, 0, none⟩ = some (.int .i64 h) ∧ w'.cell? ⟨X, 1, none⟩ = some (.int .i64 p) ∧ w'.cell? ⟨g, q * 3, none⟩ = some (.int .i64 rh) ∧ w'.cell? ⟨g, q * 3 + 1, none⟩ = some (.int .i64 rp) ∧ w'.cell? ⟨g, q * 3 + 2, none⟩ = some (.int .i64 (rn : Nat))) (first | exact ⟨x0, x1, z2, z3, z4⟩ | exact held5 (HSK.out _ HBX.out)) (first
            | (go_at_call 25; refine (HBH.out _).mono ?_; rintro e9 wx ⟨rfl, hBX⟩; have HBX : Hid (Below W0.heap.size W0 wx) := ((below_dr1 W0).trans hBX); clear hBX))
          all_goals
            have hall := HSK.out wx HBX.out
            have HWB : Hid (Below w1.heap.size w1 wx) := hall.2.2.2.2.2.2.1
            have HWO : Hid (wx.ownsRow w1.heap.size 43 3 (.slice (some ⟨g, 0, none⟩) L cap) L (rcells (l ++ [⟨rh, rp, rn⟩]))) := hall.2.2.2.2.2.2.2
            have y0 := hall.1
            have y1 := hall.2.1
            have HWS : Hid (w1.heap.size ≤ wx.heap.size) := HWB.out.size
            clear hall HSK HBX x0 x1 z2 z3 z4 HB0 HBH
            go_wp2_with (first
              | (at_builtin; refine wpList_append_run wx rfl _ _ 39 (by rfl) w1.heap.size 43 43 i0 Try.underlying39 hi hz0 hz1 hz2 _ L (l ++ [⟨rh, rp, rn⟩]) (by rfl) HWO.out h p 1 1 rfl (by rfl) (by omega) HWS.out ?_; intro v7 w7 hown7 hg7; have HO7 : Hid (w7.ownsRow w1.heap.size 43 3 v7 (L + 1) (rcells ((l ++ [⟨rh, rp, rn⟩]) ++ [⟨h, p, 1⟩]))) := hown7; have HB7 : Hid (Below w1.heap.size w1 w7) := (HWB.out.alloc HWS.out _).grown hg7 (by have := HWS.out; simp; omega) (fun j hj => (HWO.out.lt j hj).1); clear hown7 hg7; go_frame)
              | go_in)
            have HFIN : Hid (w7.ownsRow w1.heap.size 43 3 v7 (runsR (S.take (k + 1))).length (rcells (runsR (S.take (k + 1))))) := by
              have := HO7.out
              rw [HE.out]
              rw [List.length_append, HLEN.out]; exact this
            have HNF : Hid (v7 = .slice none 0 0 ∨ 0 < (runsR (S.take (k + 1))).length) := .inr (by rw [HE.out]; simp)
            go_roundw
            case rel => exact ⟨k + 1, by go_num, by omega, HFIN.out, HB7.out, HNF.out⟩
            case measure => simp [intOf]; omega
    · have HKs : Hid (Rws wr u3 (runsR S)) := by
        have h1 := HRO.out
        rw [List.take_of_length_le (by rw [← HN.out]; omega)] at h1
        exact Rws.ofOwn h1
      have HBF : Hid (Below w.heap.size w wr) := HB1.out.trans (HB.out.mono HB1.out.size)
      go_wp2
      go_ret
      exact ⟨_, rfl, HKs.out, HBF.out⟩
end Go.Proofs.Ytpnncdidbifbaaa
