/- The law BitsRuns over the contracts of package bits. -/
import Derived.Test.YtebiccpnehphiaaDoorLawEach8
import Derived.Test.YtebiccpnehphiaaDoorRuns8
import Derived.Deep.DeepMust
namespace Go.Proofs.YtebiccpnehphiaaDoor
open Go.RowKit
set_option linter.unusedVariables false

theorem Tryd.infoI64 : (Tryd.prog.info? 3).map (fun i => (i.zero, i.size, i.bytes)) = some (some (.int .i64 0), 1, 8) := by kernel_rfl
theorem mod_runs (n : Int) : ∃ m : Nat, (wrap64 (n.tmod 300 + 300)).tmod 300 = (m : Int) ∧ m < 300 := by
  have h1 := Int.tmod_lt_of_pos n (show (0 : Int) < 300 by decide)
  have h2 := Int.lt_tmod_of_pos n (show (0 : Int) < 300 by decide)
  have e1 : wrap64 (n.tmod 300 + 300) = n.tmod 300 + 300 := by
    generalize n.tmod 300 = t at *
    unfold wrap64; omega
  rw [e1]
  refine ⟨((n.tmod 300 + 300).tmod 300).toNat, ?_, ?_⟩
  · rw [Int.toNat_of_nonneg (Int.tmod_nonneg _ (by omega))]
  · have := Int.tmod_lt_of_pos (n.tmod 300 + 300) (show (0 : Int) < 300 by decide)
    omega
/-- What stands between two rounds of the first loop. -/
structure RunsI (w0 : World) (wr : World) (p b m : Nat) (va vb : Value) (rs : List (Nat × Nat)) : Prop where
  row : RowAt wr p b m (runsB rs)
  two : Two wr w0.heap.size va vb rs.length rs.length (atV rs) (ksV rs)
  dis : rs.Pairwise Dis
  cnt : cnt (runsB rs) 0 m = sumK rs
  fit : ∀ r ∈ rs, r.1 + r.2 ≤ m
  bel : Below w0.heap.size w0 wr
theorem sumK_le {w0 wr : World} {p b m : Nat} {va vb : Value} {rs : List (Nat × Nat)} (h : RunsI w0 wr p b m va vb rs) : sumK rs ≤ m := by
  rw [← h.cnt]; exact cnt_le _ _ _

set_option maxRecDepth 20000 in
set_option maxHeartbeats 1000000 in
theorem bitsRuns_walk (n : Int) (a1 : Option Addr) (len1 cap1 : Nat) (z1 : List Int) (w : World) (ht : Steps w) (f0 : (Lit.int .i64 n).wf = true) (f1 : IsRow .u8 w a1 len1 cap1 z1) :
    Calls Tryd.prog 4 #[.int .i64 n, .slice a1 len1 cap1] w fun e w' => e = .returned (.bool true) ∧ Below w.heap.size w w' := by
  have hn : -9223372036854775808 ≤ n ∧ n ≤ 9223372036854775807 := by simpa [Lit.wf, IntKind.min, IntKind.max, IntKind.signed, IntKind.bits] using f0
  have HT : Hid (Steps w) := ht
  have H0 : Hid (0 < w.heap.size) := ht.pos
  have hlen : len1 ≤ 9223372036854775807 := by
    rcases f1 with ⟨_, rfl, _⟩ | ⟨x, _, h1, h2, _⟩
    · decide
    · unfold maxLen at h2; omega
  have HAw : Hid (Calls Tryd.prog 6 #[] w fun x w' => x = .returned (.bool true) ∧ Below w.heap.size w w') := awake_any w ht
  by_cases hl : 30 < len1
  · clear f1
    go_enter Tryd.func4, Tryd.ntmps4
    go_wp2_with fail
    refine HAw.out.mono ?_
    rintro e w1 ⟨rfl, hB⟩
    have HB : Hid (Below w.heap.size w w1) := hB
    have HAw2 : Hid (Calls Tryd.prog 6 #[] w1 fun x w' => x = .returned (.bool true) ∧ Below w1.heap.size w1 w') := awake_any w1 (HT.out.below hB)
    clear hB
    go_wp2_with fail
    refine HAw2.out.mono ?_
    rintro e w2 ⟨rfl, hB2⟩
    have HB2 : Hid (Below w.heap.size w w2) := HB.out.trans (hB2.mono HB.out.size)
    clear hB2
    go_wp2
    go_ret
    exact ⟨rfl, HB2.out⟩
  · obtain ⟨m, hm, hm2⟩ := mod_runs n
    obtain ⟨i0, hi, hz0, hz1, hz2⟩ := info_parts Tryd.infoI64
    have HM : Hid ((wrap64 (n.tmod 300 + 300)).tmod 300 = (m : Int)) := hm
    have HR : Hid (IsRow .u8 w a1 len1 cap1 z1) := f1
    clear f1 hm ht f0 hn
    go_enter Tryd.func4, Tryd.ntmps4
    go_wp2_with fail
    refine HAw.out.mono ?_
    rintro e w1 ⟨rfl, hB⟩
    have HB : Hid (Below w.heap.size w w1) := hB
    have HN : Hid (Calls Tryd.prog 12 #[.int .i64 (m : Nat)] w1 fun x w' => ∃ p b, x = .returned (.tuple #[.pointer (some ⟨p, 0, none⟩), .int .i64 0]) ∧ w1.heap.size ≤ p ∧ w1.heap.size ≤ b ∧ RowAt w' p b m noneB ∧ Below w1.heap.size w1 w') := new_ok w1 m (by omega) (by have := hB.size; have := H0.out; omega)
    clear hB
    go_wp2_with fail
    rw [HM.out]
    refine HN.out.mono ?_
    rintro e w2 ⟨p, b, rfl, hp, hb, hR, hB2⟩
    have HB2 : Hid (Below w.heap.size w w2) := HB.out.trans (hB2.mono HB.out.size)
    have HP2 : Hid (w.heap.size ≤ b) := Nat.le_trans HB.out.size hb
    have HI2 : Hid (RunsI w w2 p b m (.slice none 0 0) (.slice none 0 0) []) :=
      ⟨hR, ⟨World.ownsRow_nil _ _ _ _, World.ownsRow_nil _ _ _ _, fun g h => by simp [Value.ownBlock] at h⟩, List.Pairwise.nil, cnt_none fun _ _ => rfl, (fun r hr => by cases hr), HB2.out⟩
    clear hR hB2 hp hb HM HN HB
    go_wp2_with fail
    go_loopw [8, 9, 10, 11] (fun t va vb i wr => ∃ (j : Nat) (rs : List (Nat × Nat)), i = .int .i64 (j : Nat) ∧ j ≤ len1 ∧ rs.length ≤ j ∧ t = .int .i64 (sumK rs : Nat) ∧ Hid (RunsI w wr p b m va vb rs)) (fun _ _ _ i _ => len1 - (intOf i).toNat)
    case atStart => exact ⟨0, [], rfl, Nat.zero_le _, Nat.le_refl _, rfl, HI2⟩
    case round =>
      obtain ⟨j, rs, rfl, hj, hrl, rfl, hI⟩ := hrel
      have hsum := sumK_le hI.out
      have HTr : Hid (Steps wr) := HT.out.kept hI.out.bel H0.out
      have hws := hI.out.bel.size
      by_cases hlt : j < len1
      · obtain ⟨g, off, rfl, hg, hcell, hwf⟩ := row_at HR.out hlt
        have hcell2 := (hI.out.bel.cell (p := ⟨g, off + j, none⟩) hg).trans hcell
        have hu : 0 ≤ z1[j]?.getD 0 ∧ z1[j]?.getD 0 ≤ 255 := by simpa [Lit.wf, IntKind.min, IntKind.max, IntKind.signed, IntKind.bits] using hwf
        obtain ⟨u, hu2⟩ : ∃ u : Nat, z1[j]?.getD 0 = (u : Int) := ⟨_, (Int.toNat_of_nonneg hu.1).symm⟩
        rw [hu2] at hcell2 hu
        clear hcell hwf hg hu2
        have hmod : ((u : Nat) : Int).tmod 70 = ((u % 70 : Nat) : Int) := Int.ofNat_tmod u 70
        have hk : u % 70 < 70 := Nat.mod_lt _ (by decide)
        generalize u % 70 = k0 at *
        obtain ⟨k, hkk⟩ : ∃ k, 1 + k0 = k := ⟨_, rfl⟩
        have hk1 : (1 : Int) + (k0 : Nat) = (k : Nat) := by omega
        have hkb : 1 ≤ k ∧ k ≤ 70 := by omega
        have HF : Hid (Calls Tryd.prog 13 #[.pointer (some ⟨p, 0, none⟩), .int .i64 (k : Nat)] wr fun x w' => ((∃ a : Nat, x = .returned (.int .i64 (a : Nat)) ∧ a + k ≤ m ∧ (∀ i, a ≤ i → i < a + k → runsB rs i = false) ∧ ∀ y, y < a → Hit (runsB rs) k y) ∨ (x = .returned (.int .i64 (-1)) ∧ ∀ y, y + k ≤ m → Hit (runsB rs) k y)) ∧ w' = wr) := find_any wr p b m _ k hI.out.row HTr.out hkb.1 (by omega)
        clear hkk hk
        go_wp2_with fail
        refine HF.out.mono ?_
        rintro e w5 ⟨⟨x, rfl, hx1, hx2, hx3⟩ | ⟨rfl, -⟩, rfl⟩
        · have HS : Hid (Calls Tryd.prog 14 #[.pointer (some ⟨p, 0, none⟩), .int .i64 (x : Nat), .int .i64 (k : Nat)] w5 fun e w' => e = .returned (.int .i64 0) ∧ RowAt w' p b m (putB (runsB rs) x k true) ∧ Only b w5 w') := set_ok w5 p b m _ x k hI.out.row HTr.out hx1 hx2
          have HX2 : Hid (∀ i, x ≤ i → i < x + k → runsB rs i = false) := hx2
          have HX3 : Hid (∀ y, y < x → Hit (runsB rs) k y) := hx3
          clear hx2 hx3
          go_wp2_with fail
          refine HS.out.mono ?_
          rintro e w6 ⟨rfl, hR6, hO6⟩
          have HB6 : Hid (Below w.heap.size w w6) := hI.out.bel.trans (hO6.below HP2.out hI.out.bel.size)
          have HR6 : Hid (RowAt w6 p b m (runsB (rs ++ [(x, k)]))) := by
            have := hR6
            rwa [runsB_snoc] at this
          have HT6 : Hid (Two w6 w.heap.size u9 u10 rs.length rs.length (atV rs) (ksV rs)) := hI.out.two.only hO6 hI.out.row.body (by decide)
          have HC6 : Hid (cnt (runsB (rs ++ [(x, k)])) 0 m = sumK (rs ++ [(x, k)])) := by
            unfold Hid
            rw [← runsB_snoc, cnt_set hx1 HX2.out, hI.out.cnt, sumK_snoc]
          have hsum2 : sumK rs + k ≤ m := by
            have h1 := HC6.out
            rw [sumK_snoc] at h1
            rw [← h1]; exact cnt_le _ _ _
          have HHas : Hid (∀ y : Nat, y + 1 = x → Calls Tryd.prog 15 #[.pointer (some ⟨p, 0, none⟩), .int .i64 (y : Nat)] w6 fun e w' => e = .returned (.bool true) ∧ w' = w6) := fun y hy => by
            have h1 := has_any w6 p b m _ y HR6.out (by omega)
            have h2 : runsB (rs ++ [(x, k)]) y = true := by
              rw [← runsB_snoc]
              unfold putB
              rw [if_neg (by omega)]
              exact hit_before (HX3.out y (by omega)) (fun i h3 h4 => HX2.out i (by omega) (by omega))
            rwa [h2] at h1
          have HS6 : Hid (w.heap.size ≤ w6.heap.size) := HB6.out.size
          have HPD : Hid ((rs ++ [(x, k)]).Pairwise Dis) := pair_snoc hI.out.dis (dis_new HX2.out)
          have HFT : Hid (∀ r ∈ rs ++ [(x, k)], r.1 + r.2 ≤ m) := fun r hr => by
            rcases List.mem_append.1 hr with hr | hr
            · exact hI.out.fit r hr
            · rw [List.mem_singleton.1 hr]; exact hx1
          clear hR6 hO6 HS HF hI HX2 HX3
          by_cases hx0 : x = 0
          · subst hx0
            go_wp2_with (first
              | (at_builtin; refine wpList_append_own_at _ rfl _ _ 36 rfl w.heap.size 3 i0 _ 1 8 Tryd.underlying36 hi hz0 hz1 hz2 rfl (by decide) u9 rs.length (atV rs) rfl (HT6.out.a.alloc _) _ 1 1 [.int .i64 0] rfl rfl (cell_one_new _ _ _) ?c2 ?c3 ?c4 ?c5 ?_; (case c2 => intro q hq; simp at hq; subst hq; rfl); (case c3 => unfold maxLen; omega); (case c4 => omega); (case c5 => simp; exact Nat.le_succ_of_le HS6.out); intro va7 w7 hown7 hg7 _ hat7; have HT7 : Hid (Two w7 w.heap.size va7 u10 (rs.length + 1) rs.length (atV (rs ++ [(0, k)])) (ksV rs)) := (HT6.out.alloc _).growA (by rw [← atV_snoc]; exact hown7) hg7 hat7; have HR7 : Hid (RowAt w7 p b m (runsB (rs ++ [(0, k)]))) := (HR6.out.below ((Below.refl _ _).alloc (Nat.le_refl _) _)).grown (HT6.out.a.alloc _) hg7; have HB7 : Hid (Below w.heap.size w w7) := grewOwn (HB6.out.alloc HS6.out _) (HT6.out.a.alloc _) hg7 (by simp; exact Nat.le_succ_of_le HS6.out); have HS7 : Hid (w.heap.size ≤ w7.heap.size) := HB7.out.size; clear hown7 hg7 hat7)
              | (at_builtin; refine wpList_append_own_at _ rfl _ _ 36 rfl w.heap.size 3 i0 _ 1 8 Tryd.underlying36 hi hz0 hz1 hz2 rfl (by decide) u10 rs.length (ksV rs) rfl (HT7.out.b.alloc _) _ 1 1 [.int .i64 (k : Nat)] rfl rfl (cell_one_new _ _ _) ?e2 ?e3 ?e4 ?e5 ?_; (case e2 => intro q hq; simp at hq; subst hq; rfl); (case e3 => unfold maxLen; omega); (case e4 => omega); (case e5 => simp; exact Nat.le_succ_of_le HS7.out); intro vb8 w8 hown8 hg8 _ hat8; have HT8 : Hid (Two w8 w.heap.size va7 vb8 (rs.length + 1) (rs.length + 1) (atV (rs ++ [(0, k)])) (ksV (rs ++ [(0, k)]))) := (HT7.out.alloc _).growB (by rw [← ksV_snoc]; exact hown8) hg8 hat8; have HR8 : Hid (RowAt w8 p b m (runsB (rs ++ [(0, k)]))) := (HR7.out.below ((Below.refl _ _).alloc (Nat.le_refl _) _)).grown (HT7.out.b.alloc _) hg8; have HB8 : Hid (Below w.heap.size w w8) := grewOwn (HB7.out.alloc HS7.out _) (HT7.out.b.alloc _) hg8 (by simp; exact Nat.le_succ_of_le HS7.out); clear hown8 hg8 hat8))
            have HI8 : Hid (RunsI w w8 p b m va7 vb8 (rs ++ [(0, k)])) := ⟨HR8.out, by rw [List.length_append]; exact HT8.out, HPD.out, HC6.out, HFT.out, HB8.out⟩
            go_roundw
            case rel => exact ⟨j + 1, rs ++ [(0, k)], by go_num, by omega, by simp; omega, by rw [sumK_snoc]; go_num, HI8⟩
            case measure => simp [intOf]; omega
          · obtain ⟨y, hy⟩ : ∃ y, y + 1 = x := ⟨x - 1, by omega⟩
            have HHy : Hid (Calls Tryd.prog 15 #[.pointer (some ⟨p, 0, none⟩), .int .i64 (y : Nat)] w6 fun e w' => e = .returned (.bool true) ∧ w' = w6) := HHas.out y hy
            have hxy : ((x : Nat) : Int) - 1 = (y : Nat) := by omega
            have hxp : 0 < x := by omega
            clear HHas hy hx0
            go_wp2_with fail
            refine HHy.out.mono ?_
            rintro e w9 ⟨rfl, rfl⟩
            go_wp2_with (first
              | (at_builtin; refine wpList_append_own_at _ rfl _ _ 36 rfl w.heap.size 3 i0 _ 1 8 Tryd.underlying36 hi hz0 hz1 hz2 rfl (by decide) u9 rs.length (atV rs) rfl (HT6.out.a.alloc _) _ 1 1 [.int .i64 (x : Nat)] rfl rfl (cell_one_new _ _ _) ?c2 ?c3 ?c4 ?c5 ?_; (case c2 => intro q hq; simp at hq; subst hq; rfl); (case c3 => unfold maxLen; omega); (case c4 => omega); (case c5 => simp; exact Nat.le_succ_of_le HS6.out); intro va7 w7 hown7 hg7 _ hat7; have HT7 : Hid (Two w7 w.heap.size va7 u10 (rs.length + 1) rs.length (atV (rs ++ [(x, k)])) (ksV rs)) := (HT6.out.alloc _).growA (by rw [← atV_snoc]; exact hown7) hg7 hat7; have HR7 : Hid (RowAt w7 p b m (runsB (rs ++ [(x, k)]))) := (HR6.out.below ((Below.refl _ _).alloc (Nat.le_refl _) _)).grown (HT6.out.a.alloc _) hg7; have HB7 : Hid (Below w.heap.size w w7) := grewOwn (HB6.out.alloc HS6.out _) (HT6.out.a.alloc _) hg7 (by simp; exact Nat.le_succ_of_le HS6.out); have HS7 : Hid (w.heap.size ≤ w7.heap.size) := HB7.out.size; clear hown7 hg7 hat7)
              | (at_builtin; refine wpList_append_own_at _ rfl _ _ 36 rfl w.heap.size 3 i0 _ 1 8 Tryd.underlying36 hi hz0 hz1 hz2 rfl (by decide) u10 rs.length (ksV rs) rfl (HT7.out.b.alloc _) _ 1 1 [.int .i64 (k : Nat)] rfl rfl (cell_one_new _ _ _) ?e2 ?e3 ?e4 ?e5 ?_; (case e2 => intro q hq; simp at hq; subst hq; rfl); (case e3 => unfold maxLen; omega); (case e4 => omega); (case e5 => simp; exact Nat.le_succ_of_le HS7.out); intro vb8 w8 hown8 hg8 _ hat8; have HT8 : Hid (Two w8 w.heap.size va7 vb8 (rs.length + 1) (rs.length + 1) (atV (rs ++ [(x, k)])) (ksV (rs ++ [(x, k)]))) := (HT7.out.alloc _).growB (by rw [← ksV_snoc]; exact hown8) hg8 hat8; have HR8 : Hid (RowAt w8 p b m (runsB (rs ++ [(x, k)]))) := (HR7.out.below ((Below.refl _ _).alloc (Nat.le_refl _) _)).grown (HT7.out.b.alloc _) hg8; have HB8 : Hid (Below w.heap.size w w8) := grewOwn (HB7.out.alloc HS7.out _) (HT7.out.b.alloc _) hg8 (by simp; exact Nat.le_succ_of_le HS7.out); clear hown8 hg8 hat8))
            have HI8 : Hid (RunsI w w8 p b m va7 vb8 (rs ++ [(x, k)])) := ⟨HR8.out, by rw [List.length_append]; exact HT8.out, HPD.out, HC6.out, HFT.out, HB8.out⟩
            go_roundw
            case rel => exact ⟨j + 1, rs ++ [(x, k)], by go_num, by omega, by simp; omega, by rw [sumK_snoc]; go_num, HI8⟩
            case measure => simp [intOf]; omega
        · go_wp2
          go_roundw
          case rel => exact ⟨j + 1, rs, by go_num, by omega, by omega, rfl, hI⟩
          case measure => simp [intOf]; omega
      · have HCt : Hid (Calls Tryd.prog 11 #[.pointer (some ⟨p, 0, none⟩)] wr fun e w' => e = .returned (.int .i64 (sumK rs : Nat)) ∧ w' = wr) := by
          have := count_any wr p b m _ hI.out.row
          rwa [hI.out.cnt] at this
        have hgt : (m < sumK rs) = False := by simp; omega
        obtain ⟨aa, ca, rfl⟩ := own_shape hI.out.two.a
        obtain ⟨ab, cb, rfl⟩ := own_shape hI.out.two.b
        go_wp2_with fail
        refine HCt.out.mono ?_
        rintro e w5 ⟨rfl, rfl⟩
        clear HCt
        obtain ⟨L, hL⟩ : ∃ L, rs.length = L := ⟨_, rfl⟩
        have HI : Hid (RunsI w w5 p b m (.slice aa L ca) (.slice ab L cb) rs) := by rw [← hL]; exact hI.out
        rw [hL] at hrl ⊢
        have HL : Hid (rs.length = L) := hL
        have HT5 : Hid (Two w5 w.heap.size (.slice aa L ca) (.slice ab L cb) L L (atV rs) (ksV rs)) := by
          have := HI.out.two
          rwa [hL] at this
        clear hI hL
        go_wp2
        go_loopw [14] (fun i wr => ∃ j : Nat, i = .int .i64 (j : Nat) ∧ j ≤ L ∧ Hid (RowAt wr p b m (runsB (rs.drop j))) ∧ Hid (Two wr w.heap.size (.slice aa L ca) (.slice ab L cb) L L (atV rs) (ksV rs)) ∧ Hid (Below w.heap.size w wr)) (fun i _ => L - (intOf i).toNat)
        case atStart => exact ⟨0, rfl, Nat.zero_le _, HI.out.row, HT5, HI.out.bel⟩
        case round =>
          obtain ⟨q, rfl, hq, hRw, hTw, hBw⟩ := hrel
          have HTw : Hid (Steps wr) := HT.out.kept hBw.out H0.out
          by_cases hql : q < L
          · have hqr : q < rs.length := by rw [HL.out]; exact hql
            obtain ⟨x, k, hxk⟩ : ∃ x k, rs[q] = (x, k) := ⟨_, _, rfl⟩
            have hdrop : rs.drop q = (x, k) :: rs.drop (q + 1) := by rw [List.drop_eq_getElem_cons hqr, hxk]
            have hfit : x + k ≤ m := HI.out.fit (x, k) (by rw [← hxk]; exact List.getElem_mem hqr)
            obtain ⟨ga, xa, ea, -, hca⟩ := own_at (j := q) (u := .int .i64 (x : Nat)) hTw.out.a (by simp [atV, List.getElem?_eq_getElem hqr, hxk])
            obtain ⟨gb, xb, eb, -, hcb⟩ := own_at (j := q) (u := .int .i64 (k : Nat)) hTw.out.b (by simp [ksV, List.getElem?_eq_getElem hqr, hxk])
            simp only [Value.slice.injEq, true_and] at ea eb
            obtain ⟨rfl, rfl⟩ := ea
            obtain ⟨rfl, rfl⟩ := eb
            have HC : Hid (Calls Tryd.prog 16 #[.pointer (some ⟨p, 0, none⟩), .int .i64 (x : Nat), .int .i64 (k : Nat)] wr.drew fun e w' => e = .returned (.int .i64 0) ∧ RowAt w' p b m (runsB (rs.drop (q + 1))) ∧ Only b wr.drew w') := by
              have hp : ((x, k) :: rs.drop (q + 1)).Pairwise Dis := by rw [← hdrop]; exact List.Pairwise.sublist (List.drop_sublist _ _) HI.out.dis
              have h1 := clear_ok wr.drew p b m (runsB (rs.drop q)) x k hRw.out.drew HTw.out hfit (by rw [hdrop]; exact runsB_head (r := (x, k)))
              rw [hdrop] at h1
              have h2 := runsB_drop hp
              simp only at h2
              rwa [h2] at h1
            have HKeep : Hid (∀ w', Only b wr.drew w' → Two w' w.heap.size (.slice (some ⟨ga, 0, none⟩) L ca) (.slice (some ⟨gb, 0, none⟩) L cb) L L (atV rs) (ksV rs) ∧ Below w.heap.size w w') := fun w' ho =>
              ⟨hTw.out.drew.only ho hRw.out.body (by decide), hBw.out.drew.trans (ho.below HP2.out hBw.out.size)⟩
            have hL30 : L ≤ 30 := by omega
            clear hdrop hxk hqr hfit
            go_wp2_with fail
            go_region_with (go_at_call 16; refine HC.out.mono ?_; rintro e w6 ⟨rfl, hR6, hO6⟩; have HR6 : Hid (RowAt w6 p b m (runsB (rs.drop (q + 1)))) := hR6; have HK6 : Hid (Two w6 w.heap.size (.slice (some ⟨ga, 0, none⟩) L ca) (.slice (some ⟨gb, 0, none⟩) L cb) L L (atV rs) (ksV rs) ∧ Below w.heap.size w w6) := HKeep.out w6 hO6; clear hR6 hO6)
            all_goals
              go_wp2
              go_roundw
              case rel => exact ⟨q + 1, by go_num, by omega, HR6, HK6.out.1, HK6.out.2⟩
              case measure => simp [intOf]; omega
          · have hqe : q = L := by omega
            have HRn : Hid (RowAt wr p b m noneB) := by
              have := hRw.out
              rwa [List.drop_of_length_le (by rw [HL.out]; omega), runsB_nil] at this
            have HCn : Hid (Calls Tryd.prog 11 #[.pointer (some ⟨p, 0, none⟩)] wr fun e w' => e = .returned (.int .i64 0) ∧ w' = wr) := by
              have := count_any wr p b m _ HRn.out
              rwa [show cnt noneB 0 m = 0 from cnt_none fun _ _ => rfl] at this
            have HNn : Hid (Calls Tryd.prog 10 #[.pointer (some ⟨p, 0, none⟩), .int .i64 0] wr fun e w' => e = .returned (.int .i64 (-1)) ∧ w' = wr) := (next_any wr p b m noneB 0 HRn.out HTw.out (by decide)).mono (by
              rintro e w9 ⟨⟨r, -, -, -, h, -⟩ | ⟨rfl, -⟩, rfl⟩
              · cases h
              · exact ⟨rfl, rfl⟩)
            go_wp2_with fail
            refine HCn.out.mono ?_
            rintro e w6 ⟨rfl, rfl⟩
            go_wp2_with fail
            refine HNn.out.mono ?_
            rintro e w7 ⟨rfl, rfl⟩
            go_wp2
            go_ret
            exact ⟨rfl, hBw.out⟩
end Go.Proofs.YtebiccpnehphiaaDoor
