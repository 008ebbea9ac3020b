/- Contracts of entry.rising and entry.Apply. -/
import Derived.Test.YtfclhehpbniapaaWalkMap11
import Derived.Test.YtfclhehpbniapaaSort10
namespace Go.Proofs.Ytfclhehpbniapaa
open Go.RowKit Go.Maps
set_option linter.unusedVariables false
set_option maxRecDepth 20000

def mdF (f : Ky → Ent) (k : Ky) : Md := ⟨k.1, k.2, (f k).1, (f k).2.1, (f k).2.2⟩
theorem Met10.startE {D : Dw} {ks : List Ky} {f : Ky → Ent} (h : EntD D ks f) : Met10 ks (Maps.has D) [] :=
  ⟨List.nodup_nil, fun k hk => by rw [h.has k hk]; simp, by simp⟩
theorem sortR_alike {ss ks : List Ky} (h : ∀ k, k ∈ ss ↔ k ∈ ks) : sortR ss = sortR ks := rises_same (sortR_rises ss) (sortR_rises ks) fun k => by rw [sortR_mem, sortR_mem, h]
theorem invV11 (v : Value) (y : Dw × List MemPlace) (h : entR v = some y) : ∃ c : Ent, v = evalE c := by
  obtain ⟨e, he, _⟩ := entR_inv h
  exact ⟨e, he⟩

set_option maxHeartbeats 4000000 in
theorem rising11_any (w : World) (X n : Nat) (ks : List Ky) (f : Ky → Ent) (hM : MapE w X n ks f) (hn : n ≤ 1000) :
    Calls Try.prog 32 #[.map (some X)] w fun e w' => ∃ u, e = .returned u ∧ Els encM 5 w' u ((sortR ks).map (mdF f)) ∧ Below w.heap.size w w' := by
  obtain ⟨D, hown, hD⟩ := hM
  have HD : Hid (EntD D ks f) := hD
  have HSD : Hid (Maps.size D ≤ 1000) := Nat.le_trans hown.size_le hn
  have HXL : Hid (X < w.heap.size) := hown.lt
  obtain ⟨i0, hi, hz0, hz1, hz2⟩ := info_k
  obtain ⟨i1, hi1, hz3, hz4, hz5⟩ := info_parts Try.infoM11
  clear hD
  go_enter Try.func32, Try.ntmps32
  go_wp2_with (first
    | (at_range; refine wpList_range_own _ rfl _ 61 rfl 36 39 lawK Try.underlying61 entR X n D rfl hown ?_; intro w0 hrg0 hg0 hs0)
    | go_in)
  go_frame
  obtain ⟨R, hR⟩ : ∃ R, R = w.heap.size := ⟨_, rfl⟩
  have HR : Hid (R = w.heap.size) := hR
  rw [← hR] at hrg0 hs0
  rw [← hR]
  try rw [← hR]
  clear hR
  go_loopw [3] (fun v wr => ∃ (left : Lit → Bool) (cnt : Nat) (ss : List Ky), wr.ranges Try.prog 36 entR X R n D left cnt ∧ ss.length + cnt ≤ Maps.size D ∧
      wr.ownsRow (R + 1) 36 2 v ss.length (kcells ss) ∧ Hid (Met10 ks left ss) ∧ Hid (Below R w wr) ∧ R + 1 ≤ wr.heap.size)
    (fun _ wr => wr.rangeLeft X R)
  case atStart =>
    exact ⟨_, _, [], hrg0, by simp, World.ownsRow_nil _ _ _ _, Met10.startE HD.out, (Below.refl R w).grown hg0 (by have := HR.out; omega) (fun j hj => by cases hj), by omega⟩
  case round =>
    obtain ⟨left, cnt, ss, hrg, hcs, hrow, HM, HB, hsz⟩ := hrel
    have HRG : Hid (wr.ranges Try.prog 36 entR X R n D left cnt) := hrg
    have HRO : Hid (wr.ownsRow (R + 1) 36 2 u3 ss.length (kcells ss)) := hrow
    have HCS : Hid (ss.length + cnt ≤ Maps.size D) := hcs
    have HSW : Hid (R + 1 ≤ wr.heap.size) := hsz
    clear hrg hrow hcs hsz hown hrg0 hg0 hs0
    go_wp2_with (first
      | (at_next; refine wpList_next_ranges _ rfl _ rfl 36 lawK entR (fun x : Ky => Value.agg #[.int .i64 x.1, .int .i64 x.2]) evalE invK10 invV11 X R n _ _ _ rfl HRG.out ?_ ?_)
      | go_in)
    · intro hc0 hl0
      have HALL : Hid (∀ k, k ∈ ss ↔ k ∈ ks) := HM.out.all HD.out.fit hl0
      have HIS : Hid (sortR ss = sortR ks) := sortR_alike HALL.out
      have HK1 : Hid (Keys wr u3 ss) := Keys.ofOwn HRO.out HM.out.fit
      have HSL : Hid (ss.length ≤ 1000) := by have := HCS.out; have := HSD.out; unfold Hid; omega
      have HSO : Hid (Calls Try.prog 45 #[u3] wr fun e w' => ∃ u, e = .returned u ∧ Keys w' u (sortR ks) ∧ Below wr.heap.size wr w') := by
        refine (sort_any wr u3 ss HK1.out HSL.out).mono ?_
        rintro e w' ⟨u, he, hk, hb, -⟩
        rw [HIS.out] at hk
        exact ⟨u, he, hk, hb⟩
      have HTL : Hid ((sortR ks).length ≤ 1000) := by unfold Hid; rw [← HIS.out]; exact Nat.le_trans (sortR_len ss) HSL.out
      have HTM : Hid (∀ k ∈ sortR ks, k ∈ ks) := fun k hk => sortR_mem.1 hk
      have HME : Hid (MapE wr X n ks f) := ⟨D, HRG.out.owns, HD.out⟩
      have HBw : Hid (Below w.heap.size w wr) := by rw [← HR.out]; exact HB.out
      clear hc0 hl0 HRG HRO HM HK1 HSL HIS HALL HCS
      generalize hTT : sortR ks = T at *
      have HTT : Hid (sortR ks = T) := hTT
      clear hTT
      go_wp2_with fail
      refine HSO.out.mono ?_
      rintro e w5 ⟨u5, rfl, hk5, hb5⟩
      have HM5 : Hid (MapE w5 X n ks f) := HME.out.kept hb5
      have HB5 : Hid (Below w.heap.size w w5) := HBw.out.trans (hb5.mono HBw.out.size)
      obtain ⟨a5, c5, rfl⟩ := hk5.shape
      obtain ⟨N, hN⟩ : ∃ N, N = T.length := ⟨_, rfl⟩
      have HN : Hid (N = T.length) := hN
      have hNb : N ≤ 1000 := by rw [hN]; exact HTL.out
      rw [← hN] at hk5 ⊢
      have HK5 : Hid (Keys w5 (.slice a5 N c5) T) := hk5
      clear hN hk5 hb5 HSO HME HBw HTL HB HSW
      go_wp2_with fail
      go_loopw [5, 21] (fun v i wr => ∃ k : Nat, i = .int .i64 (k : Nat) ∧ k ≤ N ∧ Hid (wr.ownsRow w5.heap.size 41 5 v k (ecells encM ((T.take k).map (mdF f)))) ∧ Hid (Below w5.heap.size w5 wr)) (fun _ i _ => N - (intOf i).toNat)
      case atStart => exact ⟨0, rfl, Nat.zero_le _, World.ownsRow_nil _ _ _ _, Below.refl _ _⟩
      case round =>
        obtain ⟨k, rfl, hk, HO, HB⟩ := hrel
        by_cases hlt : k < N
        · obtain ⟨q, off, rfl, hq, hc⟩ := HK5.out.addr (by omega)
          obtain ⟨h, p, hkk⟩ := key_at (ks := T) (j := k) (by rw [← HN.out]; exact hlt)
          obtain ⟨hc0, hc1⟩ := hc k _ hkk
          simp only at hc0 hc1
          have c0 : wr.cell? ⟨q, off + k * 2, none⟩ = some (.int .i64 h) := (HB.out.cell (p := ⟨q, off + k * 2, none⟩) hq).trans hc0
          have c1 : wr.cell? ⟨q, off + k * 2 + 1, none⟩ = some (.int .i64 p) := (HB.out.cell (p := ⟨q, off + k * 2 + 1, none⟩) hq).trans hc1
          have HMT : Hid ((T.take (k + 1)).map (mdF f) = (T.take k).map (mdF f) ++ [mdF f (h, p)]) := by unfold Hid; rw [take_snocA hkk, List.map_append]; rfl
          have HIN : Hid ((h, p) ∈ ks) := HTM.out _ (List.mem_of_getElem? hkk)
          have HMD : Hid (mdF f (h, p) = ⟨h, p, (f (h, p)).1, (f (h, p)).2.1, (f (h, p)).2.2⟩) := rfl
          rw [HMD.out] at HMT
          obtain ⟨W, hW⟩ : ∃ W, W = wr.alloc (.cells #[.int .i64 h, .int .i64 p] 36) := ⟨_, rfl⟩
          obtain ⟨Y, hY⟩ : ∃ Y, Y = wr.heap.size := ⟨_, rfl⟩
          have HGY : Hid (W.heap[Y]? = some (.cells #[.int .i64 h, .int .i64 p] 36 (0, 0))) := by rw [hW, hY]; exact heap_alloc_new _ _
          have HBW : Hid (Below w5.heap.size w5 W) := by rw [hW]; exact HB.out.alloc HB.out.size _
          have HOW : Hid (W.ownsRow w5.heap.size 41 5 u5 k (ecells encM ((T.take k).map (mdF f)))) := own_below11 HO.out (by rw [hW]; exact (Below.refl _ _).alloc (Nat.le_refl _) _)
          have HLW : Hid (∀ W', MapE W' X n ks f → (Instr.lookup 61 (.map (some X)) (.agg #[.int .i64 h, .int .i64 p]) false).run Try.prog W' = .ok (evalE (f (h, p))) W') := fun W' hm => hm.look HIN.out
          have HMW : Hid (MapE W X n ks f) := HM5.out.kept HBW.out
          have HYN : Hid (u5.ownBlock ≠ some Y) := fun e => by have := (HO.out.lt Y e).2; omega
          have HXN : Hid (u5.ownBlock ≠ some X) := fun e => by have := (HO.out.lt X e).1; have := HM5.out.lt; omega
          generalize f (h, p) = e5 at *
          obtain ⟨s5, g5, v5⟩ := e5
          simp only at HMT HLW
          have HSX : Hid (∀ W', Below W.heap.size W W' → W'.cell? ⟨Y, 0, none⟩ = some (.int .i64 h) ∧ W'.cell? ⟨Y, 1, none⟩ = some (.int .i64 p) ∧ (Instr.lookup 61 (.map (some X)) (.agg #[.int .i64 h, .int .i64 p]) false).run Try.prog W' = .ok (.agg #[.int .i64 s5, .int .i64 g5, .int .u32 (v5 : Nat)]) W') := fun W' hb => by
            obtain ⟨x0, x1⟩ := cells2' ((hb.block Y (lt_of_heap HGY.out)).trans HGY.out)
            exact ⟨x0, x1, HLW.out W' (HMW.out.kept hb)⟩
          have HQY : Hid (∀ W9 o, (W.drew.alloc o).grownBy W9 u5.ownBlock → W9.cell? ⟨Y, 0, none⟩ = some (.int .i64 h) ∧ W9.cell? ⟨Y, 1, none⟩ = some (.int .i64 p) ∧ (Instr.lookup 61 (.map (some X)) (.agg #[.int .i64 h, .int .i64 p]) false).run Try.prog W9 = .ok (.agg #[.int .i64 s5, .int .i64 g5, .int .u32 (v5 : Nat)]) W9) := fun W9 o hg => by
            have hb : Below W.heap.size W (W.drew.alloc o) := (Below.refl _ _).drew.alloc (Nat.le_refl _) o
            have h1 := (hb.block Y (lt_of_heap HGY.out)).trans HGY.out
            obtain ⟨x0, x1⟩ := cells2' ((hg.block Y (lt_of_heap h1) (fun e => HYN.out e.symm)).trans h1)
            exact ⟨x0, x1, HLW.out W9 ((HMW.out.kept hb).grown hg (fun e => HXN.out e.symm))⟩
          have HSZ : Hid (w5.heap.size ≤ W.heap.size) := HBW.out.size
          obtain ⟨d0, d1⟩ := cells2' HGY.out
          generalize hQ : (T.take k).map (mdF f) = Qs at *
          have HQ : Hid ((T.take k).map (mdF f) = Qs) := hQ
          clear hQ hc hkk hc0 hc1 HO HB HIN HMD
          go_wp2_with fail
          rw [← hW]
          try rw [← hY]
          clear hW hY c0 c1 d0 d1
          go_region_held3 (fun w' => w'.cell? ⟨Y, 0, none⟩ = some (.int .i64 h) ∧ w'.cell? ⟨Y, 1, none⟩ = some (.int .i64 p) ∧ (Instr.lookup 61 (.map (some X)) (.agg #[.int .i64 h, .int .i64 p]) false).run Try.prog w' = .ok (.agg #[.int .i64 s5, .int .i64 g5, .int .u32 (v5 : Nat)]) w') (first | exact HSX.out _ (Below.refl _ _).drew | exact HSX.out _ ((Below.refl _ _).drew.alloc (Nat.le_refl _) _) | exact HS9) (first
            | (refine step_append_els encM_ok (by rfl) _ _ 22 (by rfl) w5.heap.size 41 i1 _ 40 Try.underlying22 hi1 hz3 (by rfl) hz4 hz5 (by decide) _ k Qs (by rfl) (own_below11 HOW.out ((Below.refl _ _).drew.alloc (Nat.le_refl _) _)) _ [⟨h, p, s5, g5, v5⟩] (by rfl) (els_one11 (by simp)) (by simp only [List.length_cons, List.length_nil]; omega) (Nat.le_trans HSZ.out (by simp)) ?_
               intro v9 w9 hown9 hg9
               have HS9 := HQY.out _ _ hg9
               have HB9 : Hid (Below w5.heap.size w5 w9) := HBW.out.trans (((Below.refl _ _).drew.alloc HSZ.out _).trans (below_grownK (own_below11 HOW.out ((Below.refl _ _).drew.alloc (Nat.le_refl _) _)) hg9 (Nat.le_trans HSZ.out (by simp))))))
          all_goals
            have R1 : Hid (w9.ownsRow w5.heap.size 41 5 v9 (k + 1) (ecells encM ((T.take (k + 1)).map (mdF f)))) := by
              unfold Hid
              rw [HMT.out]
              exact hown9
            clear hown9 hg9 HS9
            go_wp2
            go_roundw
            case rel => exact ⟨k + 1, by go_num, by omega, R1.out, HB9.out⟩
            case measure => simp [intOf]; omega
        · obtain rfl : k = N := by omega
          have HE : Hid (Els encM 5 wr u5 (T.map (mdF f))) := by
            have h2 := HO.out
            rw [List.take_of_length_le (by rw [← HN.out]; omega)] at h2
            exact Els.ofOwn encM_ok h2
          go_wp2
          go_ret
          rw [HTT.out]
          exact ⟨_, rfl, HE.out, HB5.out.trans (HB.out.mono HB5.out.size)⟩
    · intro h p c1 c2 c3 kl yd yp w2 cnt2 hkey hlk hv hat hrg2 hlt hg2 hs2 hen
      obtain ⟨x, hx', ex, rfl⟩ := keyOf_inv hkey
      obtain ⟨h', p'⟩ := x
      simp only [Value.agg.injEq, Array.mk.injEq, List.cons.injEq, Value.int.injEq, true_and, and_true] at ex
      obtain ⟨rfl, rfl⟩ := ex
      have HIN : Hid ((h, p) ∈ ks) := by
        have h1 := Maps.has_true_of_atKey hat
        rw [HD.out.has (h, p) hx'] at h1
        exact (of_decide_eq_true h1 : (h, p) ∈ ks)
      have HM2 : Hid (Met10 ks (fun z => left z && !z.sameKey (klit (h, p))) (ss ++ [(h, p)])) := HM.out.step hx' hlk HIN.out
      have HX : Hid (KI (h, p)) := hx'
      have hne2 : u3.ownBlock ≠ some R := fun e => by have := (HRO.out.lt R e).1; omega
      have HRO2 : Hid (w2.ownsRow (R + 1) 36 2 u3 ss.length (kcells ss)) := HRO.out.kept hg2 (Or.inr hne2)
      have HB2 : Hid (Below R w w2) := HB.out.grown hg2 (by have := HSW.out; omega) (fun j hj => by cases hj; exact Nat.le_refl _)
      have HS2 : Hid (R + 1 ≤ w2.heap.size) := Nat.le_trans HSW.out hg2.size
      have HRG2 : Hid (w2.ranges Try.prog 36 entR X R n D (fun z => left z && !z.sameKey (klit (h, p))) cnt2) := hrg2
      have HLT : Hid (cnt2 < cnt) := hlt
      have HLB : Hid (u3.ownBlock ≠ some R ∧ u3.ownBlock ≠ some X) := ⟨hne2, fun e => by have := (HRO.out.lt X e).1; have := HXL.out; have := HR.out; omega⟩
      clear hkey hlk hv hat hrg2 hlt hg2 hs2 hx' HM HRO HB HSW HIN hne2
      have HK1 : Hid (Keys ((w2.alloc (.cells #[.int .i64 h, .int .i64 p] 36)).alloc (.cells #[.int .i64 h, .int .i64 p] 36)) (.slice (some ⟨w2.heap.size + 1, 0, none⟩) 1 1) [(h, p)]) := keys_two (k := (h, p)) _ HX.out _
      have HBa : Hid (Below R w ((w2.alloc (.cells #[.int .i64 h, .int .i64 p] 36)).alloc (.cells #[.int .i64 h, .int .i64 p] 36))) := (HB2.out.alloc (by have := HS2.out; omega) _).alloc (by have := HS2.out; simp; omega) _
      have HRa : Hid (((w2.alloc (.cells #[.int .i64 h, .int .i64 p] 36)).alloc (.cells #[.int .i64 h, .int .i64 p] 36)).ranges Try.prog 36 entR X R n D (fun z => left z && !z.sameKey (klit (h, p))) cnt2) := (HRG2.out.alloc _).alloc _
      go_wp2_with (first
        | (at_builtin; refine wpList_append_keys _ rfl _ _ 34 (by rfl) (R + 1) 36 i0 Try.underlying34 hi hz0 hz1 hz2 u3 ss.length ss (by rfl) ((HRO2.out.alloc _).alloc _) (.slice (some ⟨w2.heap.size + 1, 0, none⟩) 1 1) [(h, p)] (by rfl) HK1.out (by have := HCS.out; have := HSD.out; simp; omega) (by have := HS2.out; simp; omega) ?_; intro v5 w5 hown5 hg5 hat5; go_frame)
        | go_in)
      have HRG5 : Hid (w5.ranges Try.prog 36 entR X R n D (fun z => left z && !z.sameKey (klit (h, p))) cnt2) := HRa.out.kept hg5 (fun e => HLB.out.2 e.symm) (fun e => HLB.out.1 e.symm)
      have HB5 : Hid (Below R w w5) := HBa.out.grown hg5 (by have := HS2.out; simp; omega) (fun j hj => by have := (HRO2.out.lt j hj).1; omega)
      have hm1 := HRG5.out.left_eq
      have hm2 := HRG.out.left_eq
      have HS5 : Hid (R + 1 ≤ w5.heap.size) := Nat.le_trans (by have := HS2.out; simp; omega) hg5.size
      go_roundw
      case rel =>
        exact ⟨_, cnt2, ss ++ [(h, p)], HRG5.out, by have := HCS.out; have := HLT.out; simp; omega, by simpa using hown5, HM2.out, HB5.out, HS5.out⟩
      case measure => rw [hm1, hm2]; exact HLT.out

/-! ### Apply -/
def cutAll (ks gs : List Ky) : List Ky := gs.foldl cutK ks
theorem cutAll_snoc {ks gs : List Ky} {k : Nat} {g : Ky} (h : gs[k]? = some g) : cutAll ks (gs.take (k + 1)) = cutK (cutAll ks (gs.take k)) g := by
  unfold cutAll
  rw [take_snocA h, List.foldl_append]
  rfl
theorem cutAll_mem {x : Ky} : ∀ (gs ks : List Ky), x ∈ cutAll ks gs ↔ x ∈ ks ∧ x ∉ gs
  | [], ks => by simp [cutAll]
  | g :: r, ks => by
    show x ∈ cutAll (cutK ks g) r ↔ _
    rw [cutAll_mem r, cutK, List.mem_filter]
    simp [and_assoc]
theorem cutAll_len : ∀ (gs ks : List Ky), (cutAll ks gs).length ≤ ks.length
  | [], ks => Nat.le_refl _
  | g :: r, ks => Nat.le_trans (cutAll_len r (cutK ks g)) (List.length_filter_le _ _)
theorem layF_fold (x : Ky) : ∀ (l : List Md) (f : Ky → Ent), layF f l x = l.foldl (entStep x) (f x)
  | [], f => rfl
  | m :: r, f => by
    show layF (putF f m.k (m.s, m.g, m.u)) r x = r.foldl (entStep x) (entStep x (f x) m)
    rw [layF_fold x r]
    congr 1
    unfold putF entStep
    by_cases e : x = m.k
    · rw [if_pos e, if_pos e.symm]
    · rw [if_neg e, if_neg (fun e' => e e'.symm)]
theorem findM_no {x : Ky} : ∀ {l : List Md}, x ∉ l.map Md.k → findM l x = none
  | [], _ => rfl
  | m :: r, h => by
    rw [List.map_cons, List.mem_cons, not_or] at h
    unfold findM
    rw [if_neg (fun e => h.1 e.symm)]
    exact findM_no h.2
theorem fold_find {x : Ky} : ∀ (l : List Md) (e : Ent), (l.map Md.k).Nodup → l.foldl (entStep x) e = (findM l x).getD e
  | [], e, _ => rfl
  | m :: r, e, h => by
    rw [List.map_cons, List.nodup_cons] at h
    rw [List.foldl_cons, fold_find r _ h.2]
    unfold entStep
    by_cases q : m.k = x
    · rw [if_pos q, findM_no (by rw [← q]; exact h.1)]
      unfold findM
      rw [if_pos q]
      rfl
    · rw [if_neg q]
      conv => rhs; unfold findM
      rw [if_neg q]
theorem apply_is {l puts : List Md} {gone : List Ky} (hn : (l.map Md.k).Nodup) : (sortR (cutAll ([] ++ l.map Md.k) gone ++ puts.map Md.k)).map (mdF (layF (layF (fun _ => (0, 0, 0)) l) puts)) = applyM l puts gone := by
  unfold applyM
  have h1 : sortR (cutAll ([] ++ l.map Md.k) gone ++ puts.map Md.k) = sortR (keysA l puts gone) := sortR_alike fun k => by
    rw [List.nil_append, List.mem_append, cutAll_mem, keysA, List.mem_append, stayK, List.mem_filter]
    simp [hasK]
  rw [h1]
  apply List.map_congr_left
  intro k _
  have h2 : layF (layF (fun _ => (0, 0, 0)) l) puts k = entA l puts k := by
    rw [layF_fold, layF_fold, fold_find l _ hn]
    rfl
  unfold mdF mdA
  rw [h2]

set_option maxHeartbeats 2000000 in
theorem apply11_any (w : World) (x y z : Value) (l puts : List Md) (gone : List Ky) (hx : Els encM 5 w x l) (hy : Els encM 5 w y puts) (hz : Keys w z gone) (hl : l.length ≤ 100) (hp : puts.length ≤ 100) (hg : gone.length ≤ 100) (hli : ∀ m ∈ l, MdI m) (hpi : ∀ m ∈ puts, MdI m) (hn : (l.map Md.k).Nodup) :
    Calls Try.prog 13 #[x, y, z] w fun e w' => ∃ u, e = .returned u ∧ Els encM 5 w' u (applyM l puts gone) ∧ Below w.heap.size w w' := by
  obtain ⟨ax, cx, rfl⟩ := hx.shape
  obtain ⟨ay, cy, rfl⟩ := hy.shape
  obtain ⟨az, cz, rfl⟩ := hz.shape
  have HX : Hid (Els encM 5 w (.slice ax l.length cx) l) := hx
  have HY : Hid (Els encM 5 w (.slice ay puts.length cy) puts) := hy
  have HZ : Hid (Keys w (.slice az gone.length cz) gone) := hz
  have HLI : Hid (∀ m ∈ l, MdI m) := hli
  have HPI : Hid (∀ m ∈ puts, MdI m) := hpi
  have HAI : Hid ((sortR (cutAll ([] ++ l.map Md.k) gone ++ puts.map Md.k)).map (mdF (layF (layF (fun _ => (0, 0, 0)) l) puts)) = applyM l puts gone) := apply_is hn
  obtain ⟨NL, hNL⟩ : ∃ n, n = l.length := ⟨_, rfl⟩
  obtain ⟨NP, hNP⟩ : ∃ n, n = puts.length := ⟨_, rfl⟩
  obtain ⟨NG, hNG⟩ : ∃ n, n = gone.length := ⟨_, rfl⟩
  rw [← hNL] at HX hl ⊢
  rw [← hNP] at HY hp ⊢
  rw [← hNG] at HZ hg ⊢
  have HNL : Hid (NL = l.length) := hNL
  have HNP : Hid (NP = puts.length) := hNP
  have HNG : Hid (NG = gone.length) := hNG
  clear hx hy hz hli hpi hn hNL hNP hNG
  have hmm := @run_makeMap Try.prog
  go_enter Try.func13, Try.ntmps13
  go_wp2_with fail
  clear hmm
  have HM0 : Hid (MapE (w.alloc (.map #[] 0)) w.heap.size 0 [] (fun _ => (0, 0, 0))) := MapE.made w _
  have HB0 : Hid (Below w.heap.size w (w.alloc (.map #[] 0))) := (Below.refl _ _).alloc (Nat.le_refl _) _
  refine (lay11_any _ w.heap.size 0 _ l [] _ HM0.out (HX.out.kept HB0.out) HLI.out (by rw [← HNL.out]; omega) (by decide) w.heap.size (Nat.le_refl _) (fun W h => HX.out.kept (HB0.out.trans h))).mono ?_
  rintro e w1 ⟨rfl, hm1, hb1⟩
  rw [← HNL.out] at hm1
  have HB1 : Hid (Below w.heap.size w w1) := HB0.out.trans hb1
  generalize hf1 : layF (fun _ => ((0, 0, 0) : Ent)) l = f1 at *
  have HM1 : Hid (MapE w1 w.heap.size (0 + NL) ([] ++ l.map Md.k) f1) := hm1
  generalize hk1 : [] ++ l.map Md.k = k1 at *
  clear hm1 hb1 HM0 HB0 hf1 hk1
  go_wp2_with fail
  go_loopw [16] (fun i wr => ∃ k : Nat, i = .int .i64 (k : Nat) ∧ k ≤ NG ∧ Hid (MapE wr w.heap.size (0 + NL) (cutAll k1 (gone.take k)) f1) ∧ Hid (Below w.heap.size w wr)) (fun i _ => NG - (intOf i).toNat)
  case atStart => exact ⟨0, rfl, Nat.zero_le _, HM1.out, HB1.out⟩
  case round =>
    obtain ⟨k, rfl, hk, HM, HB⟩ := hrel
    clear HM1 HB1
    by_cases hlt : k < NG
    · obtain ⟨b, off, rfl, hb, hc⟩ := (HZ.out.kept HB.out).addr (by omega)
      obtain ⟨h, p, hkk⟩ := key_at (ks := gone) (j := k) (by rw [← HNG.out]; exact hlt)
      obtain ⟨c0, c1⟩ := hc k _ hkk
      simp only at c0 c1
      have HKI : Hid (KI (h, p)) := HZ.out.fit hkk
      have HC : Hid (cutAll k1 (gone.take (k + 1)) = cutK (cutAll k1 (gone.take k)) (h, p)) := cutAll_snoc hkk
      have hW : Below wr.heap.size wr (wr.alloc (.cells #[.int .i64 h, .int .i64 p] 36)) := (Below.refl _ _).alloc (Nat.le_refl _) _
      have HMW : Hid (MapE (wr.alloc (.cells #[.int .i64 h, .int .i64 p] 36)) w.heap.size (0 + NL) (cutAll k1 (gone.take k)) f1) := HM.out.kept hW
      have HBW : Hid (Below w.heap.size w (wr.alloc (.cells #[.int .i64 h, .int .i64 p] 36))) := HB.out.trans (hW.mono HB.out.size)
      obtain ⟨d0, d1⟩ := cells2' (heap_alloc_new wr (.cells #[.int .i64 h, .int .i64 p] 36))
      clear hW hc hb hkk HM HB
      go_wp2_with (at_delete; refine wpList_delete_ent rfl _ _ rfl HMW.out (k := (h, p)) HKI.out rfl rfl ?_)
      intro w2 HM2 hg2
      have HB2 : Hid (Below w.heap.size w w2) := HBW.out.grown hg2.out HBW.out.size (fun j hj => by cases hj; exact Nat.le_refl _)
      have HM3 : Hid (MapE w2 w.heap.size (0 + NL) (cutAll k1 (gone.take (k + 1))) f1) := by rw [HC.out]; simpa [Hid] using HM2.out
      clear hg2 HM2 HMW HBW HC
      go_wp2_with fail
      go_roundw
      case rel => exact ⟨k + 1, by go_num, by omega, HM3.out, HB2.out⟩
      case measure => simp [intOf]; omega
    · have hkn : k = NG := by omega
      have HM4 : Hid (MapE wr w.heap.size (0 + NL) (cutAll k1 gone) f1) := by
        have := HM.out
        rwa [List.take_of_length_le (by rw [hkn, HNG.out]; exact Nat.le_refl _)] at this
      clear HM
      go_wp2_with fail
      refine (lay11_any _ w.heap.size (0 + NL) _ puts _ _ HM4.out (HY.out.kept HB.out) HPI.out (by rw [← HNP.out]; omega) (by omega) w.heap.size (Nat.le_refl _) (fun W h => HY.out.kept (HB.out.trans h))).mono ?_
      rintro e w5 ⟨rfl, hm5, hb5⟩
      have HB5 : Hid (Below w.heap.size w w5) := HB.out.trans hb5
      have HM5 : Hid (MapE w5 w.heap.size (0 + NL + puts.length) (cutAll k1 gone ++ puts.map Md.k) (layF f1 puts)) := hm5
      clear hm5 hb5 HM4 HB
      go_wp2_with fail
      refine (rising11_any w5 _ _ _ _ HM5.out (by rw [← HNP.out]; omega)).mono ?_
      rintro e w6 ⟨u, rfl, hu, hb6⟩
      rw [HAI.out] at hu
      have HU : Hid (Els encM 5 w6 u (applyM l puts gone)) := hu
      have HB6 : Hid (Below w.heap.size w w6) := HB5.out.trans (hb6.mono HB5.out.size)
      clear hu hb6
      go_wp2
      go_ret
      exact ⟨_, rfl, HU.out, HB6.out⟩
end Go.Proofs.Ytfclhehpbniapaa
