/- The law RecordTurned, walked, over the bundle of the program's contracts. (Written by wip/mk_laws6.py.) -/
import Derived.Test.YtndeknkfljnjoaaDoorRec6
import Derived.Deep.RegionLaw
namespace Go.Proofs.YtndeknkfljnjoaaDoor
open Go.RowKit
set_option linter.unusedVariables false


theorem rem_at6 (a : Int) (n : Int) (hn : 0 < n) (hn2 : n ≤ 100000) : ∃ K : Nat, (K : Int) < n ∧ (wrap64 (a.tmod n + n)).tmod n = (K : Int) := by
  have h3 := Int.tmod_lt_of_pos a hn
  have h4 := Int.lt_tmod_of_pos a hn
  have e : wrap64 (a.tmod n + n) = a.tmod n + n := by unfold wrap64; omega
  rw [e]
  have h5 := Int.tmod_nonneg n (show 0 ≤ a.tmod n + n by omega)
  have h6 := Int.tmod_lt_of_pos (a.tmod n + n) hn
  obtain ⟨k, hk⟩ := Int.eq_ofNat_of_zero_le h5
  exact ⟨k, by omega, hk⟩
theorem own_form6 {w : World} {base : Nat} {e : TypeId} {v : Value} {n : Nat} {xs : List Value} (h : w.ownsRow base e 1 v n xs) (hn : 0 < n) : ∃ g cap, v = .slice (some ⟨g, 0, none⟩) n cap ∧ base ≤ g ∧ n ≤ cap := by
  rcases h.2 with ⟨rfl, h0⟩ | ⟨g, cap, cur, rfl, hb, hg, hc, _⟩
  · omega
  · exact ⟨g, cap, rfl, hb, hc⟩
theorem set_same (l : List Nat) (k d : Nat) (h : k < l.length) (hd : d = l[k]?.getD 0) : l.set k d = l := by
  apply List.ext_getElem?
  intro i
  by_cases hi : k = i
  · subst hi
    rw [List.getElem?_set_self h, hd, List.getElem?_eq_getElem h]
    rfl
  · rw [List.getElem?_set_ne hi]
theorem octs_cap {w : World} {a : Option Addr} {n cap : Nat} {zs : List Nat} (h : Octs w (.slice a n cap) zs) : n ≤ cap := by
  have hl := h.lenEq
  obtain ⟨_, _, ad, c, e1, g3, _⟩ := h
  simp only [Value.slice.injEq] at e1
  obtain ⟨_, _, rfl⟩ := e1
  omega
theorem octs_cutL {w : World} {b off n cap : Nat} {zs : List Nat} (h : Octs w (.slice (some ⟨b, off, none⟩) n cap) zs) (k : Nat) (hk : k ≤ n) : Octs w (.slice (some ⟨b, off, none⟩) k cap) (zs.take k) := by
  have hl := h.lenEq
  by_cases h0 : 0 < k
  · obtain ⟨b', off', e, ho⟩ := octs_piece h 0 k (Nat.zero_le _) hk h0
    simp only [Option.some.injEq, Addr.mk.injEq] at e
    obtain ⟨rfl, rfl, _⟩ := e
    simpa using ho
  · obtain rfl : k = 0 := by omega
    have hc := octs_cap h
    obtain ⟨_, _, ad, c, e1, _, g4, _⟩ := h
    simp only [Value.slice.injEq] at e1
    obtain ⟨_, _, rfl⟩ := e1
    rw [List.take_zero]
    exact ⟨fun z h => (by cases h), (by simp), _, cap, rfl, Nat.zero_le _, g4, .inr ⟨_, rfl, .inl rfl⟩⟩
theorem octs_cutR {w : World} {b off n cap : Nat} {zs : List Nat} (h : Octs w (.slice (some ⟨b, off, none⟩) n cap) zs) (k : Nat) (hk : k ≤ n) (pa : Addr) (hp : k < cap → pa = ⟨b, off + k, none⟩) : Octs w (.slice (some pa) (n - k) (cap - k)) (zs.drop k) := by
  have hl := h.lenEq
  have hc := octs_cap h
  by_cases h0 : k < n
  · obtain ⟨b', off', e, ho⟩ := octs_piece h k n hk (Nat.le_refl _) h0
    simp only [Option.some.injEq, Addr.mk.injEq] at e
    obtain ⟨rfl, rfl, _⟩ := e
    rw [hp (by omega)]
    rwa [List.take_of_length_le (by rw [List.length_drop]; omega)] at ho
  · obtain rfl : k = n := by omega
    obtain ⟨_, _, ad, c, e1, _, g4, _⟩ := h
    simp only [Value.slice.injEq] at e1
    obtain ⟨_, _, rfl⟩ := e1
    have e : zs.drop k = [] := List.drop_eq_nil_of_le (by omega)
    rw [e, Nat.sub_self]
    exact ⟨fun z h => (by cases h), (by simp), _, cap - k, rfl, Nat.zero_le _, (by omega), .inr ⟨_, rfl, .inl rfl⟩⟩

set_option maxHeartbeats 2000000 in
set_option maxRecDepth 20000 in
theorem turned_same (R : Rec6) (a : Option Addr) (n ca : Nat) (ps : List Nat) (t : Int) (y : Nat) (w : World) (hp : Octs w (.slice a n ca) ps) (ht : Steps w) (hn1 : 1 ≤ n) (hn : n ≤ 1000) (hy : y < 256) (K : Nat) (hK : K < (cutS 1 2 ps).length)
    (hKe : (wrap64 (t.tmod ((cutS 1 2 ps).length : Nat) + ((cutS 1 2 ps).length : Nat))).tmod ((cutS 1 2 ps).length : Nat) = (K : Nat)) (hyx : y = (cutS 1 2 ps)[K]?.getD 0) :
    Calls Tryd.prog 6 #[.slice a n ca, .int .i64 t, .int .u8 (y : Nat)] w fun x w' => x = .returned (.bool true) ∧ Below w.heap.size w w' := by
  obtain ⟨i0, hi0, hz0, hz1, hz2⟩ := info_parts Tryd.infoU8'
  have hid : okId 1 2 = true := by decide +kernel
  have hnn := hp.lenEq
  have hcl := cutS_length 1 2 ps
  have hq1 : 1 ≤ partsN ps.length := by unfold partsN; omega
  have hq9 : partsN ps.length ≤ 9 := by unfold partsN; omega
  have HCU : Hid (∀ v W, Octs W v ps → Steps W → Calls Tryd.prog 14 #[.int .i64 1, .int .i64 2, v] W fun x w' => ∃ u, x = .returned (.tuple #[u, .int .i64 0]) ∧ Octs w' u (cutS 1 2 ps) ∧ Below W.heap.size W w') := fun v W h hs => R.cut_ok 1 2 v ps W hid h (by omega) (by omega) hs
  have HJT : Hid (∀ v W, Octs W v ((cutS 1 2 ps).set K y) → Steps W → Calls Tryd.prog 17 #[v, .int .i64 1, .int .i64 2] W fun x w' => ∃ u, x = .returned (.tuple #[u, .int .i64 ((partsN ps.length + 1 : Nat) : Int)]) ∧ Octs w' u ps ∧ Below W.heap.size W w') := fun v W h hs => by
    have := R.join v ((cutS 1 2 ps).set K y) 1 2 W h (by rw [List.length_set, hcl]; omega) hs (by decide) (by decide)
    rw [show joinS ((cutS 1 2 ps).set K y) 1 2 = some (ps, partsN ps.length + 1) by
      rw [set_same _ _ _ hK hyx]; have h2 := join_cut hid ps (by omega) (by omega) []; rwa [List.append_nil] at h2] at this
    exact this
  have HJM : Hid (∀ v W, Octs W v ((cutS 1 2 ps).take (128 * (K / 128)) ++ (cutS 1 2 ps).drop (128 * (K / 128) + 128)) → Steps W → Calls Tryd.prog 17 #[v, .int .i64 1, .int .i64 2] W fun x w' => ∃ u, x = .returned (.tuple #[u, .int .i64 ((0 : Nat) : Int)]) ∧ Octs w' u [] ∧ Below W.heap.size W w') := fun v W h hs => by
    have := R.join v ((cutS 1 2 ps).take (128 * (K / 128)) ++ (cutS 1 2 ps).drop (128 * (K / 128) + 128)) 1 2 W h (by rw [List.length_append, List.length_take, List.length_drop, hcl]; omega) hs (by decide) (by decide)
    rw [join_missing hid ps (by omega) (K / 128) (by omega)] at this
    exact this
  have HBS : Hid (∀ z ∈ cutS 1 2 ps, z < 256) := cutS_small hp.small 1 2
  have HYX : Hid (y = (cutS 1 2 ps)[K]?.getD 0) := hyx
  obtain ⟨L, hL⟩ : ∃ L, L = (cutS 1 2 ps).length := ⟨_, rfl⟩
  have hL1 : 256 ≤ L := by omega
  have hL2 : L ≤ 1280 := by omega
  have HLq : Hid (L = 128 * (partsN ps.length + 1)) := by unfold Hid; omega
  rw [← hL] at hK hKe
  have HBL : Hid ((cutS 1 2 ps).length = L) := hL.symm
  have HR : Hid Rec6 := R
  have HP : Hid (Octs w (.slice a n ca) ps) := hp
  have HT : Hid (Steps w) := ht
  have LP : Hid (ps.length = n) := hnn
  have HY : Hid (y < 256) := hy
  clear R hp ht hy hyx hL hcl hnn hid
  generalize partsN ps.length = q at *
  generalize cutS 1 2 ps = Bx at *
  have hn0 : ¬ (n : Int) = 0 := by omega
  have hn0b : ((n : Int) == 0) = false := by simp; omega
  have hn0c : ¬ n = 0 := by omega
  have hn' : ¬ (1000 : Int) < n := by omega
  have hL3 : ¬ (L : Int) < 256 := by omega
  have hL0 : ¬ (L : Int) = 0 := by omega
  obtain ⟨s, hs⟩ : ∃ s, s = K / 128 := ⟨_, rfl⟩
  obtain ⟨T, hT⟩ : ∃ T, T = 128 * s := ⟨_, rfl⟩
  rw [← hs, ← hT] at HJM
  have e1 : (K : Int).tdiv 128 = (s : Int) := by rw [Int.tdiv_eq_ediv_of_nonneg (by omega)]; omega
  have e1b : (K : Int) / 128 = (s : Int) := by omega
  have e2 : (128 : Int) * (s : Int) = (T : Int) := by omega
  have e3 : IntKind.i64.wrap (T : Int) = (T : Int) := by rw [IntKind.wrap_i64]; omega
  have e4 : IntKind.i64.wrap ((T : Int) + 128) = (T : Int) + 128 := by rw [IntKind.wrap_i64]; omega
  have e5 : ((T : Int) + 128).toNat = T + 128 := by omega
  have e6 : IntKind.i64.wrap (s : Int) = (s : Int) := by rw [IntKind.wrap_i64]; omega
  have HTL : Hid (T + 128 ≤ L) := by have := HLq.out; unfold Hid; omega
  have t0 : (0 : Int) ≤ (T : Int) + 128 := by omega
  have t1 : (T : Int) + 128 ≤ (L : Int) := by have := HTL.out; omega
  have k0 : (0 : Int) ≤ (K : Int) := by omega
  have k1 : (K : Int) < (L : Int) := by omega
  clear hs hT
  go_enter Tryd.func6, Tryd.ntmps6
  go_wp2_with fail
  refine (awake6 HR.out _).mono ?_
  rintro x w1 ⟨rfl, hb1⟩
  have HB1 : Hid (Below w.heap.size w w1) := hb1
  clear hb1
  go_wp2_with fail
  refine (HCU.out _ w1 (HP.out.kept HB1.out) (HT.out.below HB1.out)).mono ?_
  rintro x w2 ⟨u, rfl, hu, hb2⟩
  obtain ⟨au, cu, rfl⟩ := hu.shape
  rw [HBL.out] at hu ⊢
  obtain ⟨bb, off, rfl, hblt, hbc⟩ := hu.addr (by omega)
  have HU2 : Hid (Octs w2 (.slice (some ⟨bb, off, none⟩) L cu) Bx) := hu
  have HB2 : Hid (Below w.heap.size w w2) := HB1.out.trans (hb2.mono HB1.out.size)
  clear hb2 hu hblt hbc
  have hcu : L ≤ cu := octs_cap HU2.out
  go_wp2_with (at_builtin; refine wpList_append_octs _ rfl _ _ 22 rfl w2.heap.size 5 i0 Tryd.underlying22 hi0 hz0 hz1 hz2 _ 0 [] rfl (World.ownsRow_made _ #[] 0 (Nat.le_refl _) (by decide) rfl) _ Bx rfl (HU2.out.alloc _) ?d1 ?d2 ?_)
  case d1 => rw [HBL.out]; omega
  case d2 => simp
  intro v3 w3 hown3 hg3
  have HD3 : Hid (Below w2.heap.size w2 w3) := ((Below.refl _ _).alloc (Nat.le_refl _) _).trans (below_grown (World.ownsRow_made _ #[] 0 (Nat.le_refl _) (by decide) rfl) hg3 (by simp))
  have HO3 : Hid (w3.ownsRow w2.heap.size 5 1 v3 L (u8s Bx)) := by
    unfold Hid
    have := hown3
    rw [HBL.out] at this
    simpa using this
  obtain ⟨g, cap3, rfl, hgg, hcap3⟩ := own_form6 HO3.out (by omega)
  clear hown3 hg3
  have hKB : K < Bx.length := by rw [HBL.out]; exact hK
  obtain ⟨z, hz⟩ : ∃ z, Bx[K]?.getD 0 = z := ⟨_, rfl⟩
  have c3 : w3.cell? ⟨g, K, none⟩ = some (.int .u8 (z : Nat)) := by
    rw [HO3.out.cellAt K (by omega)]
    rw [← hz]
    simp [u8s, List.getElem?_eq_getElem hKB]
  have f3 := HO3.out.frozenAt K
  have HST := HO3.out.stored K (.int .u8 (y : Nat))
  have HO4 : Hid (Octs (w3.setCell ⟨g, K, none⟩ (.int .u8 (y : Nat))) (.slice (some ⟨g, 0, none⟩) L cap3) (Bx.set K y)) := Octs.owned (base := w2.heap.size) (by rw [← u8s_set]; exact HST.1) (set_small _ _ _ HBS.out HY.out)
  have HD4 : Hid (Below w2.heap.size w2 (w3.setCell ⟨g, K, none⟩ (.int .u8 (y : Nat)))) := HD3.out.setCell (p := ⟨g, K, none⟩) hgg _
  have hyz : y = z := by have := HYX.out; rw [hz] at this; exact this
  subst hyz
  skip
  clear HST hz hKB HYX
  go_wp2_with fail
  clear c3 f3
  generalize w3.setCell ⟨g, K, none⟩ (.int .u8 (y : Nat)) = W4 at *
  refine (HJT.out _ W4 HO4.out ((HT.out.below HB2.out).below HD4.out)).mono ?_
  rintro x w5 ⟨u5, rfl, hu5, hb5⟩
  obtain ⟨a5, c5, rfl⟩ := hu5.shape
  rw [LP.out] at hu5 ⊢
  have HU5 : Hid (Octs w5 (.slice a5 n c5) ps) := hu5
  have HD5 : Hid (Below w2.heap.size w2 w5) := HD4.out.trans (hb5.mono HD4.out.size)
  have HB5 : Hid (Below w.heap.size w w5) := HB2.out.trans (HD5.out.mono HB2.out.size)
  clear hb5 hu5 HO4 HD4
  have OL : Hid (∀ w', Below w5.heap.size w5 w' → Octs w' (.slice (some ⟨bb, off, none⟩) T cu) (Bx.take T)) := fun w' h => octs_cutL ((HU2.out.kept HD5.out).kept h) T (by have := HTL.out; omega)
  obtain ⟨pr, hpr, hor⟩ : ∃ pr, (if cu = T + 128 then some (⟨bb, off, none⟩ : Addr) else some ⟨bb, off + (T + 128), none⟩) = some pr ∧ ∀ w', Below w5.heap.size w5 w' → Octs w' (.slice (some pr) (L - (T + 128)) (cu - (T + 128))) (Bx.drop (T + 128)) := by
    by_cases h : cu = T + 128
    · exact ⟨_, if_pos h, fun w' hb => octs_cutR ((HU2.out.kept HD5.out).kept hb) (T + 128) HTL.out _ (fun hn => by omega)⟩
    · exact ⟨_, if_neg h, fun w' hb => octs_cutR ((HU2.out.kept HD5.out).kept hb) (T + 128) HTL.out _ (fun _ => rfl)⟩
  have OR : Hid (∀ w', Below w5.heap.size w5 w' → Octs w' (.slice (some pr) (L - (T + 128)) (cu - (T + 128))) (Bx.drop (T + 128))) := hor
  have tc : (T : Int) ≤ (cu : Int) := by have := HTL.out; omega
  have tc2 : (0 : Int) ≤ (T : Int) := by omega
  clear hor
  go_wp2_with fail
  go_region_held3 (fun _ => True) (trivial) (first
    | (refine step_append_octs (by rfl) _ _ 22 (by rfl) w5.heap.size 5 i0 Tryd.underlying22 hi0 hz0 hz1 hz2 _ 0 [] (by rfl) (World.ownsRow_made _ #[] 0 (Nat.le_refl _) (by decide) rfl) _ (Bx.take T) (by rfl) (OL.out _ ((Below.refl _ _).drew.alloc (Nat.le_refl _) _)) (by rw [List.length_take]; omega) (by simp) ?_
       intro v6 w6 hown6 hg6
       have HB6 : Hid (Below w5.heap.size w5 w6) := ((Below.refl _ _).drew.alloc (Nat.le_refl _) _).trans (below_grown (World.ownsRow_made _ #[] 0 (Nat.le_refl _) (by decide) rfl) hg6 (by simp))
       clear hg6)
    | (refine step_append_octs (by rfl) _ _ 22 (by rfl) w5.heap.size 5 i0 Tryd.underlying22 hi0 hz0 hz1 hz2 _ (0 + (Bx.take T).length) ([] ++ Bx.take T) (by rfl) hown6 _ (Bx.drop (T + 128)) (by rfl) (OR.out _ HB6.out) (by rw [List.length_take, List.length_drop, HBL.out]; omega) HB6.out.size ?_
       intro v7 w7 hown7 hg7
       have HB7 : Hid (Below w5.heap.size w5 w7) := HB6.out.trans (below_grown hown6 hg7 HB6.out.size)
       have HO7 : Hid (Octs w7 v7 (Bx.take T ++ Bx.drop (T + 128))) := Octs.owned hown7 (app_small (fun z h => HBS.out z (List.mem_of_mem_take h)) (fun z h => HBS.out z (List.mem_of_mem_drop h)))
       clear hg7 hown6 hown7)
    | (go_at_call 17; refine (HJM.out _ w7 HO7.out ((HT.out.below HB5.out).below HB7.out)).mono ?_; rintro x w8 ⟨u8, rfl, hu8, hb8⟩; obtain ⟨a8, c8, rfl⟩ := hu8.shape; have HB8 : Hid (Below w5.heap.size w5 w8) := HB7.out.trans (hb8.mono HB7.out.size); clear hb8 hu8))
  all_goals
    have cv1 : (convert 22 9 (.slice a5 n c5)).run Tryd.prog w8 = .ok (.string (strN (ps))) w8 := conv_octs (P := Tryd.prog) (HU5.out.kept HB8.out) _ _ _ Tryd.underlying22 Tryd.underlying5 Tryd.underlying9
    have cv2 : (convert 22 9 (.slice a n ca)).run Tryd.prog w8 = .ok (.string (strN (ps))) w8 := conv_octs (P := Tryd.prog) ((HP.out.kept HB5.out).kept HB8.out) _ _ _ Tryd.underlying22 Tryd.underlying5 Tryd.underlying9
    have hq0 : (0 : Int) < ((q : Nat) : Int) + 1 := by omega
    go_wp2
    go_ret
    exact ⟨rfl, HB5.out.trans (HB8.out.mono HB5.out.size)⟩

set_option maxHeartbeats 2000000 in
set_option maxRecDepth 20000 in
theorem turned_else (R : Rec6) (a : Option Addr) (n ca : Nat) (ps : List Nat) (t : Int) (y : Nat) (w : World) (hp : Octs w (.slice a n ca) ps) (ht : Steps w) (hn1 : 1 ≤ n) (hn : n ≤ 1000) (hy : y < 256) (K : Nat) (hK : K < (cutS 1 2 ps).length)
    (hKe : (wrap64 (t.tmod ((cutS 1 2 ps).length : Nat) + ((cutS 1 2 ps).length : Nat))).tmod ((cutS 1 2 ps).length : Nat) = (K : Nat)) (hyx : y ≠ (cutS 1 2 ps)[K]?.getD 0) :
    Calls Tryd.prog 6 #[.slice a n ca, .int .i64 t, .int .u8 (y : Nat)] w fun x w' => x = .returned (.bool true) ∧ Below w.heap.size w w' := by
  obtain ⟨i0, hi0, hz0, hz1, hz2⟩ := info_parts Tryd.infoU8'
  have hid : okId 1 2 = true := by decide +kernel
  have hnn := hp.lenEq
  have hcl := cutS_length 1 2 ps
  have hq1 : 1 ≤ partsN ps.length := by unfold partsN; omega
  have hq9 : partsN ps.length ≤ 9 := by unfold partsN; omega
  have HCU : Hid (∀ v W, Octs W v ps → Steps W → Calls Tryd.prog 14 #[.int .i64 1, .int .i64 2, v] W fun x w' => ∃ u, x = .returned (.tuple #[u, .int .i64 0]) ∧ Octs w' u (cutS 1 2 ps) ∧ Below W.heap.size W w') := fun v W h hs => R.cut_ok 1 2 v ps W hid h (by omega) (by omega) hs
  have HJT : Hid (∀ v W, Octs W v ((cutS 1 2 ps).set K y) → Steps W → Calls Tryd.prog 17 #[v, .int .i64 1, .int .i64 2] W fun x w' => ∃ u, x = .returned (.tuple #[u, .int .i64 ((0 : Nat) : Int)]) ∧ Octs w' u [] ∧ Below W.heap.size W w') := fun v W h hs => by
    have := R.join v ((cutS 1 2 ps).set K y) 1 2 W h (by rw [List.length_set, hcl]; omega) hs (by decide) (by decide)
    rw [show joinS ((cutS 1 2 ps).set K y) 1 2 = none by
      exact join_turned hid ps hp.small (by omega) K y hK hy hyx] at this
    exact this
  have HJM : Hid (∀ v W, Octs W v ((cutS 1 2 ps).take (128 * (K / 128)) ++ (cutS 1 2 ps).drop (128 * (K / 128) + 128)) → Steps W → Calls Tryd.prog 17 #[v, .int .i64 1, .int .i64 2] W fun x w' => ∃ u, x = .returned (.tuple #[u, .int .i64 ((0 : Nat) : Int)]) ∧ Octs w' u [] ∧ Below W.heap.size W w') := fun v W h hs => by
    have := R.join v ((cutS 1 2 ps).take (128 * (K / 128)) ++ (cutS 1 2 ps).drop (128 * (K / 128) + 128)) 1 2 W h (by rw [List.length_append, List.length_take, List.length_drop, hcl]; omega) hs (by decide) (by decide)
    rw [join_missing hid ps (by omega) (K / 128) (by omega)] at this
    exact this
  have HBS : Hid (∀ z ∈ cutS 1 2 ps, z < 256) := cutS_small hp.small 1 2
  have HYX : Hid (y ≠ (cutS 1 2 ps)[K]?.getD 0) := hyx
  obtain ⟨L, hL⟩ : ∃ L, L = (cutS 1 2 ps).length := ⟨_, rfl⟩
  have hL1 : 256 ≤ L := by omega
  have hL2 : L ≤ 1280 := by omega
  have HLq : Hid (L = 128 * (partsN ps.length + 1)) := by unfold Hid; omega
  rw [← hL] at hK hKe
  have HBL : Hid ((cutS 1 2 ps).length = L) := hL.symm
  have HR : Hid Rec6 := R
  have HP : Hid (Octs w (.slice a n ca) ps) := hp
  have HT : Hid (Steps w) := ht
  have LP : Hid (ps.length = n) := hnn
  have HY : Hid (y < 256) := hy
  clear R hp ht hy hyx hL hcl hnn hid
  generalize partsN ps.length = q at *
  generalize cutS 1 2 ps = Bx at *
  have hn0 : ¬ (n : Int) = 0 := by omega
  have hn0b : ((n : Int) == 0) = false := by simp; omega
  have hn0c : ¬ n = 0 := by omega
  have hn' : ¬ (1000 : Int) < n := by omega
  have hL3 : ¬ (L : Int) < 256 := by omega
  have hL0 : ¬ (L : Int) = 0 := by omega
  obtain ⟨s, hs⟩ : ∃ s, s = K / 128 := ⟨_, rfl⟩
  obtain ⟨T, hT⟩ : ∃ T, T = 128 * s := ⟨_, rfl⟩
  rw [← hs, ← hT] at HJM
  have e1 : (K : Int).tdiv 128 = (s : Int) := by rw [Int.tdiv_eq_ediv_of_nonneg (by omega)]; omega
  have e1b : (K : Int) / 128 = (s : Int) := by omega
  have e2 : (128 : Int) * (s : Int) = (T : Int) := by omega
  have e3 : IntKind.i64.wrap (T : Int) = (T : Int) := by rw [IntKind.wrap_i64]; omega
  have e4 : IntKind.i64.wrap ((T : Int) + 128) = (T : Int) + 128 := by rw [IntKind.wrap_i64]; omega
  have e5 : ((T : Int) + 128).toNat = T + 128 := by omega
  have e6 : IntKind.i64.wrap (s : Int) = (s : Int) := by rw [IntKind.wrap_i64]; omega
  have HTL : Hid (T + 128 ≤ L) := by have := HLq.out; unfold Hid; omega
  have t0 : (0 : Int) ≤ (T : Int) + 128 := by omega
  have t1 : (T : Int) + 128 ≤ (L : Int) := by have := HTL.out; omega
  have k0 : (0 : Int) ≤ (K : Int) := by omega
  have k1 : (K : Int) < (L : Int) := by omega
  clear hs hT
  go_enter Tryd.func6, Tryd.ntmps6
  go_wp2_with fail
  refine (awake6 HR.out _).mono ?_
  rintro x w1 ⟨rfl, hb1⟩
  have HB1 : Hid (Below w.heap.size w w1) := hb1
  clear hb1
  go_wp2_with fail
  refine (HCU.out _ w1 (HP.out.kept HB1.out) (HT.out.below HB1.out)).mono ?_
  rintro x w2 ⟨u, rfl, hu, hb2⟩
  obtain ⟨au, cu, rfl⟩ := hu.shape
  rw [HBL.out] at hu ⊢
  obtain ⟨bb, off, rfl, hblt, hbc⟩ := hu.addr (by omega)
  have HU2 : Hid (Octs w2 (.slice (some ⟨bb, off, none⟩) L cu) Bx) := hu
  have HB2 : Hid (Below w.heap.size w w2) := HB1.out.trans (hb2.mono HB1.out.size)
  clear hb2 hu hblt hbc
  have hcu : L ≤ cu := octs_cap HU2.out
  go_wp2_with (at_builtin; refine wpList_append_octs _ rfl _ _ 22 rfl w2.heap.size 5 i0 Tryd.underlying22 hi0 hz0 hz1 hz2 _ 0 [] rfl (World.ownsRow_made _ #[] 0 (Nat.le_refl _) (by decide) rfl) _ Bx rfl (HU2.out.alloc _) ?d1 ?d2 ?_)
  case d1 => rw [HBL.out]; omega
  case d2 => simp
  intro v3 w3 hown3 hg3
  have HD3 : Hid (Below w2.heap.size w2 w3) := ((Below.refl _ _).alloc (Nat.le_refl _) _).trans (below_grown (World.ownsRow_made _ #[] 0 (Nat.le_refl _) (by decide) rfl) hg3 (by simp))
  have HO3 : Hid (w3.ownsRow w2.heap.size 5 1 v3 L (u8s Bx)) := by
    unfold Hid
    have := hown3
    rw [HBL.out] at this
    simpa using this
  obtain ⟨g, cap3, rfl, hgg, hcap3⟩ := own_form6 HO3.out (by omega)
  clear hown3 hg3
  have hKB : K < Bx.length := by rw [HBL.out]; exact hK
  obtain ⟨z, hz⟩ : ∃ z, Bx[K]?.getD 0 = z := ⟨_, rfl⟩
  have c3 : w3.cell? ⟨g, K, none⟩ = some (.int .u8 (z : Nat)) := by
    rw [HO3.out.cellAt K (by omega)]
    rw [← hz]
    simp [u8s, List.getElem?_eq_getElem hKB]
  have f3 := HO3.out.frozenAt K
  have HST := HO3.out.stored K (.int .u8 (y : Nat))
  have HO4 : Hid (Octs (w3.setCell ⟨g, K, none⟩ (.int .u8 (y : Nat))) (.slice (some ⟨g, 0, none⟩) L cap3) (Bx.set K y)) := Octs.owned (base := w2.heap.size) (by rw [← u8s_set]; exact HST.1) (set_small _ _ _ HBS.out HY.out)
  have HD4 : Hid (Below w2.heap.size w2 (w3.setCell ⟨g, K, none⟩ (.int .u8 (y : Nat)))) := HD3.out.setCell (p := ⟨g, K, none⟩) hgg _
  have hyz : ¬ z = y := by have := HYX.out; rw [hz] at this; exact fun h => this h.symm
  have hyz2 : ((z : Int) == (y : Int)) = false := by simp; omega
  have hyz3 : ¬ (z : Int) = (y : Int) := by omega
  clear HST hz hKB HYX
  go_wp2_with fail
  clear c3 f3
  generalize w3.setCell ⟨g, K, none⟩ (.int .u8 (y : Nat)) = W4 at *
  refine (HJT.out _ W4 HO4.out ((HT.out.below HB2.out).below HD4.out)).mono ?_
  rintro x w5 ⟨u5, rfl, hu5, hb5⟩
  obtain ⟨a5, c5, rfl⟩ := hu5.shape
  rw [show ([] : List Nat).length = 0 from rfl] at hu5 ⊢
  have HU5 : Hid (Octs w5 (.slice a5 0 c5) []) := hu5
  have HD5 : Hid (Below w2.heap.size w2 w5) := HD4.out.trans (hb5.mono HD4.out.size)
  have HB5 : Hid (Below w.heap.size w w5) := HB2.out.trans (HD5.out.mono HB2.out.size)
  clear hb5 hu5 HO4 HD4
  have OL : Hid (∀ w', Below w5.heap.size w5 w' → Octs w' (.slice (some ⟨bb, off, none⟩) T cu) (Bx.take T)) := fun w' h => octs_cutL ((HU2.out.kept HD5.out).kept h) T (by have := HTL.out; omega)
  obtain ⟨pr, hpr, hor⟩ : ∃ pr, (if cu = T + 128 then some (⟨bb, off, none⟩ : Addr) else some ⟨bb, off + (T + 128), none⟩) = some pr ∧ ∀ w', Below w5.heap.size w5 w' → Octs w' (.slice (some pr) (L - (T + 128)) (cu - (T + 128))) (Bx.drop (T + 128)) := by
    by_cases h : cu = T + 128
    · exact ⟨_, if_pos h, fun w' hb => octs_cutR ((HU2.out.kept HD5.out).kept hb) (T + 128) HTL.out _ (fun hn => by omega)⟩
    · exact ⟨_, if_neg h, fun w' hb => octs_cutR ((HU2.out.kept HD5.out).kept hb) (T + 128) HTL.out _ (fun _ => rfl)⟩
  have OR : Hid (∀ w', Below w5.heap.size w5 w' → Octs w' (.slice (some pr) (L - (T + 128)) (cu - (T + 128))) (Bx.drop (T + 128))) := hor
  have tc : (T : Int) ≤ (cu : Int) := by have := HTL.out; omega
  have tc2 : (0 : Int) ≤ (T : Int) := by omega
  clear hor
  go_wp2_with fail
  go_region_held3 (fun _ => True) (trivial) (first
    | (refine step_append_octs (by rfl) _ _ 22 (by rfl) w5.heap.size 5 i0 Tryd.underlying22 hi0 hz0 hz1 hz2 _ 0 [] (by rfl) (World.ownsRow_made _ #[] 0 (Nat.le_refl _) (by decide) rfl) _ (Bx.take T) (by rfl) (OL.out _ ((Below.refl _ _).drew.alloc (Nat.le_refl _) _)) (by rw [List.length_take]; omega) (by simp) ?_
       intro v6 w6 hown6 hg6
       have HB6 : Hid (Below w5.heap.size w5 w6) := ((Below.refl _ _).drew.alloc (Nat.le_refl _) _).trans (below_grown (World.ownsRow_made _ #[] 0 (Nat.le_refl _) (by decide) rfl) hg6 (by simp))
       clear hg6)
    | (refine step_append_octs (by rfl) _ _ 22 (by rfl) w5.heap.size 5 i0 Tryd.underlying22 hi0 hz0 hz1 hz2 _ (0 + (Bx.take T).length) ([] ++ Bx.take T) (by rfl) hown6 _ (Bx.drop (T + 128)) (by rfl) (OR.out _ HB6.out) (by rw [List.length_take, List.length_drop, HBL.out]; omega) HB6.out.size ?_
       intro v7 w7 hown7 hg7
       have HB7 : Hid (Below w5.heap.size w5 w7) := HB6.out.trans (below_grown hown6 hg7 HB6.out.size)
       have HO7 : Hid (Octs w7 v7 (Bx.take T ++ Bx.drop (T + 128))) := Octs.owned hown7 (app_small (fun z h => HBS.out z (List.mem_of_mem_take h)) (fun z h => HBS.out z (List.mem_of_mem_drop h)))
       clear hg7 hown6 hown7)
    | (go_at_call 17; refine (HJM.out _ w7 HO7.out ((HT.out.below HB5.out).below HB7.out)).mono ?_; rintro x w8 ⟨u8, rfl, hu8, hb8⟩; obtain ⟨a8, c8, rfl⟩ := hu8.shape; have HB8 : Hid (Below w5.heap.size w5 w8) := HB7.out.trans (hb8.mono HB7.out.size); clear hb8 hu8))
  all_goals
    skip
    skip
    skip
    go_wp2
    go_ret
    exact ⟨rfl, HB5.out.trans (HB8.out.mono HB5.out.size)⟩

set_option maxHeartbeats 400000 in
theorem recordTurned_of (R : Rec6) (a0 : Option Addr) (len0 cap0 : Nat) (z0 : List Int) (a1 : Int) (a2 : Int) (w : World) (ht : Steps w) (f0 : IsRow .u8 w a0 len0 cap0 z0) (f1 : (Lit.int .i64 a1).wf = true) (f2 : (Lit.int .u8 a2).wf = true) :
    Calls Tryd.prog 6 #[.slice a0 len0 cap0, .int .i64 a1, .int .u8 a2] w fun x w' => x = .returned (.bool true) ∧ Below w.heap.size w w' := by
  have h0 := Octs.ofRow f0
  have l0 := h0.lenLe
  have b2 : 0 ≤ a2 ∧ a2 ≤ 255 := by simpa [Lit.wf, IntKind.min, IntKind.max, IntKind.signed, IntKind.bits] using f2
  obtain ⟨y, rfl⟩ := Int.eq_ofNat_of_zero_le b2.1
  have HR : Hid Rec6 := R
  obtain ⟨ps, hps⟩ : ∃ zs, Octs w (.slice a0 len0 cap0) zs := ⟨_, h0⟩
  clear f0 f1 f2 h0
  by_cases hn1 : 1 ≤ len0
  · by_cases hn : len0 ≤ 1000
    · have hcl := cutS_length 1 2 ps
      have hl := hps.lenEq
      have hq9 : partsN ps.length ≤ 9 := by unfold partsN; omega
      obtain ⟨K, hK, hKe⟩ := rem_at6 a1 ((cutS 1 2 ps).length : Nat) (by omega) (by omega)
      by_cases hyx : y = (cutS 1 2 ps)[K]?.getD 0
      · exact turned_same R a0 len0 cap0 ps a1 y w hps ht hn1 hn (by omega) K (by omega) hKe hyx
      · exact turned_else R a0 len0 cap0 ps a1 y w hps ht hn1 hn (by omega) K (by omega) hKe hyx
    · clear hps ht R
      have hn0 : ¬ len0 = 0 := by omega
      have hn' : (1000 : Int) < len0 := by omega
      go_enter Tryd.func6, Tryd.ntmps6
      go_wp2_with fail
      refine (awake6 HR.out _).mono ?_
      rintro x w1 ⟨rfl, hb1⟩
      have HB1 : Hid (Below w.heap.size w w1) := hb1
      clear hb1
      go_wp2_with fail
      refine (awake6 HR.out _).mono ?_
      rintro x w2 ⟨rfl, hb2⟩
      go_wp2
      go_ret
      exact ⟨rfl, HB1.out.trans (hb2.mono HB1.out.size)⟩
  · obtain rfl : len0 = 0 := by omega
    clear hps ht R
    go_enter Tryd.func6, Tryd.ntmps6
    go_wp2_with fail
    refine (awake6 HR.out _).mono ?_
    rintro x w1 ⟨rfl, hb1⟩
    have HB1 : Hid (Below w.heap.size w w1) := hb1
    clear hb1
    go_wp2_with fail
    refine (awake6 HR.out _).mono ?_
    rintro x w2 ⟨rfl, hb2⟩
    go_wp2
    go_ret
    exact ⟨rfl, HB1.out.trans (hb2.mono HB1.out.size)⟩
end Go.Proofs.YtndeknkfljnjoaaDoor
