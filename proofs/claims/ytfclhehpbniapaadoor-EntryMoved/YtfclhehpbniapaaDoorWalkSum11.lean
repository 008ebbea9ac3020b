/- Contract of entry.Sum: a page's sum. -/
import Derived.Test.YtfclhehpbniapaaDoorRefSum11
import Derived.Test.YtfclhehpbniapaaDoorWalkNum10
import Derived.Test.YtfclhehpbniapaaDoorHeldMore
import Derived.Deep.DeepMust
namespace Go.Proofs.YtfclhehpbniapaaDoor
open Go.RowKit
set_option linter.unusedVariables false
set_option maxRecDepth 20000

theorem Tryd.zero512 (w : World) : (zeroValue 36).run Tryd.prog w = .ok (.agg (u8s (zl 512)).toArray) w := by
  rw [← rep_u8s]; exact (zero_of_info (n := 512) (by kernel_rfl)).1 w
theorem Tryd.sizeU8s : (Tryd.prog.info? 5).map (·.size) = some 1 := by kernel_rfl
theorem page_short {zs : List Nat} (h : zs.length ≤ 512) : splice (zl 512) 0 zs = pageL 512 zs := by
  apply List.ext_getElem?
  intro j
  rw [pageL_get]
  simp only [splice, zl, List.take_zero, List.nil_append, Nat.zero_add, List.drop_replicate]
  by_cases hj : j < zs.length
  · rw [List.getElem?_append_left hj, if_pos (by omega), List.getElem?_eq_getElem hj]
    rfl
  · rw [List.getElem?_append_right (by omega), List.getElem?_replicate, List.getElem?_eq_none (by omega : zs.length ≤ j)]
    by_cases h5 : j < 512
    · rw [if_pos (by omega), if_pos h5]
      rfl
    · rw [if_neg (by omega), if_neg h5]
theorem page_long {zs : List Nat} (h : 512 ≤ zs.length) : splice (zl 512) 0 (zs.take 512) = pageL 512 zs := by
  rw [page_short (by rw [List.length_take]; omega)]
  apply List.ext_getElem?
  intro j
  rw [pageL_get, pageL_get]
  by_cases h5 : j < 512
  · rw [if_pos h5, if_pos h5, List.getElem?_take_of_lt h5]
  · rw [if_neg h5, if_neg h5]
/-- 'copy(row[off:off+n], octets)' in a walk, where there may be more octets. -/
theorem wpList_copy_octsN {P : Program} {w : World} {ops : Array Oper} {rest : List Oper} {o : Oper} {a : Act} {Q : Exit → Act → World → Prop} (hgd : o.guard = none) (d s : Operand) (dT sT : TypeId)
    (ho : o.op = .call { callee := .builtin .copy, args := #[d, s], argTypes := #[dT, sT] }) (elem : TypeId) (hu : P.underlying dT = some (.slice elem)) (hsz : (P.info? elem).map (·.size) = some 1)
    (g off dLen dCap : Nat) (hd : a.eval d = .slice (some ⟨g, off, none⟩) dLen dCap) (y : Value) (zs : List Nat) (hs : a.eval s = y) (hsrc : Octs w y zs)
    (cur : List Nat) (t : TypeId) (hg : w.heap[g]? = some (.cells (u8s cur).toArray t (0, 0))) (hfit : dLen ≤ zs.length) (hpos : 0 < dLen) (hfit2 : off + dLen ≤ cur.length)
    (B : Nat) (w0 : World) (hb : Below B w0 w) (hBg : B ≤ g)
    (h : ∀ w', Hid (w'.heap[g]? = some (.cells (u8s (splice cur off (zs.take dLen))).toArray t (0, 0))) → Hid (Below B w0 w') → Hid (Only g w w') → wpList P ops Q rest (a.put o.dst (goInt dLen)) w') : wpList P ops Q (o :: rest) a w := by
  refine wpList_plain hgd fun K hK => ?_
  have := step_copy_octsN (P := P) (ops := ops) (o := o) (a := a) (w := w) (K := K) (Q := Q) (E := False) hgd d s dT sT ho elem hu hsz g off dLen dCap hd y zs hs hsrc cur t hg hfit hpos hfit2 B w0 hb hBg (fun w' h1 h2 h3 => hK _ _ (h w' h1 h2 h3))
  have hw : Region.wanted o (yielded ops a.tmps) = true := by simp [Region.wanted, hgd]
  rwa [if_pos hw] at this
theorem rows_two {w : World} {u v : Value} {zs ys : List Nat} (T : TypeId) (hu : Octs w u zs) (hv : Octs w v ys) : OctRows (w.alloc (.cells #[u, v] T)) (.slice (some ⟨w.heap.size, 0, none⟩) 2 2) [zs, ys] := by
  refine ⟨by simp, _, 2, rfl, .inr ⟨w.heap.size, 0, rfl, by simp, fun j hj => ?_⟩⟩
  have hh := heap_alloc_new w (.cells #[u, v] T)
  match j, hj with
  | 0, _ => exact ⟨u, by rw [cell_of_row _ _ _ _ _ _ hh]; rfl, hu.alloc _⟩
  | 1, _ => exact ⟨v, by rw [cell_of_row _ _ _ _ _ _ hh]; rfl, hv.alloc _⟩
  | j + 2, hj => exact absurd hj (by simp)

set_option maxHeartbeats 4000000 in
theorem sum11_row (w : World) (h p g : Int) (v : Value) (zs : List Nat) (ht : Steps w) (hv : Octs w v zs) (hl : zs.length ≤ 700) :
    Calls Tryd.prog 6 #[.agg #[.int .i64 h, .int .i64 p], .int .i64 g, v] w fun e w' => e = .returned (.int .u32 (sum11 (h, p) g zs : Nat)) ∧ Below w.heap.size w w' := by
  have HV : Hid (Octs w v zs) := hv
  have HT : Hid (Steps w) := ht
  have hz512 := Tryd.zero512
  obtain ⟨Z, hZ⟩ : ∃ Z, Z = zl 512 := ⟨_, rfl⟩
  rw [← hZ] at hz512
  have HZ : Hid (Z = zl 512) := hZ
  have HZL : Hid (Z.length = 512) := by unfold Hid; rw [hZ, zl_length]
  obtain ⟨a, ca, rfl⟩ := hv.shape
  obtain ⟨L, hL⟩ : ∃ L, L = zs.length := ⟨_, rfl⟩
  have HL : Hid (L = zs.length) := hL
  rw [← hL] at hl HV ⊢
  have HNB : Hid (∀ W, Calls Tryd.prog 13 #[.agg #[.int .i64 h, .int .i64 p]] W fun e w' => e = .returned (.int .i64 (numK (h, p))) ∧ Below W.heap.size W w') := fun W => number_any h p W
  have HSU : Hid (sum11 (h, p) g zs = crcSum ((octZ (numK (h, p)) 4 ++ octZ g 8) ++ pageL 512 zs)) := rfl
  generalize numK (h, p) = N at *
  obtain ⟨A1, hA1⟩ : ∃ A, A = octZ N 4 := ⟨_, rfl⟩
  obtain ⟨A2, hA2⟩ : ∃ A, A = A1 ++ octZ g 8 := ⟨_, rfl⟩
  have HA1 : Hid ([] ++ octZ N 4 = A1) := by unfold Hid; rw [hA1]; rfl
  have HA2 : Hid (A1 ++ octZ g 8 = A2) := hA2.symm
  have HL1 : Hid (A1.length = 4) := by unfold Hid; rw [hA1, octZ_length]
  have HL2 : Hid (A2.length = 12) := by unfold Hid; rw [hA2, List.length_append, octZ_length, HL1.out]
  rw [← hA1, ← hA2] at HSU
  have HPS : Hid (∀ z ∈ pageL 512 zs, z < 256) := pageL_small 512 hv.small
  have HPL : Hid ((pageL 512 zs).length = 512) := pageL_length _ _
  have HP1 : Hid (L ≤ 512 → splice (zl 512) 0 zs = pageL 512 zs) := fun h => page_short (by rw [← HL.out]; exact h)
  have HP2 : Hid (512 ≤ L → splice (zl 512) 0 (zs.take 512) = pageL 512 zs) := fun h => page_long (by rw [← HL.out]; exact h)
  rw [HSU.out]
  generalize pageL 512 zs = PG at *
  clear hv ht hA1 hA2 hZ hL HSU
  obtain ⟨W0, hW0⟩ : ∃ W0, W0 = (w.alloc (.cells #[.int .i64 h, .int .i64 p] 23)).alloc (.cells (u8s Z).toArray 36) := ⟨_, rfl⟩
  have hs : (w.alloc (.cells #[.int .i64 h, .int .i64 p] 23)).heap.size = w.heap.size + 1 := by simp
  have HB0 : Hid (Below w.heap.size w W0) := by rw [hW0]; exact ((Below.refl _ _).alloc (Nat.le_refl _) _).alloc (by simp) _
  have HG0 : Hid (W0.heap[w.heap.size]? = some (.cells #[.int .i64 h, .int .i64 p] 23 (0, 0))) := by
    rw [hW0]
    exact (((Below.refl _ _).alloc (Nat.le_refl _) _ : Below _ (w.alloc (.cells #[.int .i64 h, .int .i64 p] 23)) _).block w.heap.size (by simp)).trans (heap_alloc_new w _)
  have HG1 : Hid (W0.heap[w.heap.size + 1]? = some (.cells (u8s Z).toArray 36 (0, 0))) := by
    have := heap_alloc_new (w.alloc (.cells #[.int .i64 h, .int .i64 p] 23)) (.cells (u8s Z).toArray 36)
    rw [hs] at this
    rw [hW0]; exact this
  have HV0 : Hid (Octs W0 (.slice a L ca) zs) := HV.out.kept HB0.out
  have HBS : Hid (W0.heap.size = w.heap.size + 2) := by rw [hW0]; simp [Hid]
  subst hW0
  have hL7 : L ≤ 512 ∨ 512 < L := by omega
  clear hs
  rcases hL7 with h5 | h5
  · go_enter Tryd.func6, Tryd.ntmps6
    go_wp2_with ((with_reducible show wpList _ _ _ (Oper.mk _ (Op.call ⟨Callee.builtin Builtin.copy, _, _⟩) _ _ _ _ :: _) _ _); go_must (refine wpList_copy_octs rfl _ _ 24 24 rfl 5 Tryd.underlying24 Tryd.sizeU8s (w.heap.size + 1) 0 512 512 rfl _ zs rfl HV0.out Z 36 HG1.out (by rw [← HL.out]; exact h5) (by rw [← HL.out, HZL.out]; omega) w.heap.size w HB0.out (Nat.le_succ _) ?_))
    intro w2 HG2 HB2 HO2
    rw [HZ.out, HP1.out h5] at HG2
    have HGK : Hid (w2.heap[w.heap.size]? = some (.cells #[.int .i64 h, .int .i64 p] 23 (0, 0))) := (HO2.out.heap (by rw [HBS.out]; omega) (by omega)).trans HG0.out
    clear HG0 HG1 HV0 HBS HB0 HO2 HP1 HP2 HZ HZL hz512
    have HT2 : Hid (Steps w2) := HT.out.below HB2.out
    have HXL : Hid (w.heap.size + 1 < w2.heap.size) := lt_of_heap HG2.out
    have HS : Hid (∀ W, Below w2.heap.size w2 W → W.cell? ⟨w.heap.size, 0, none⟩ = some (.int .i64 h) ∧ W.cell? ⟨w.heap.size, 1, none⟩ = some (.int .i64 p)) := fun W hW => by
      have hh := (hW.block w.heap.size (lt_of_heap HGK.out)).trans HGK.out
      exact ⟨by rw [cell_of_row _ _ _ _ _ _ hh]; rfl, by rw [cell_of_row _ _ _ _ _ _ hh]; rfl⟩
    go_wp2_with fail
    go_region_held3 (fun w' => w'.cell? ⟨w.heap.size, 0, none⟩ = some (.int .i64 h) ∧ w'.cell? ⟨w.heap.size, 1, none⟩ = some (.int .i64 p)) (first | exact HS.out _ (Below.refl _ _).drew | exact HS.out _ HB6.out | exact HS.out _ HB5.out | exact HS.out _ HB4.out | exact HS.out _ HB3.out) (first
      | (go_at_call 12; refine (wnum_any HW5.out g 8 (by rw [HL1.out]; decide)).mono ?_; rintro e w6 ⟨rfl, hw6, hb6⟩
         rw [show cl 8 8 = 8 by decide, HA2.out] at hw6
         have HB6 : Hid (Below w2.heap.size w2 w6) := HB5.out.trans hb6
         have HW6 : Hid (IsW w2.heap.size w6 w2.heap.size A2) := hw6
         clear hw6 hb6)
      | (go_at_call 12; refine (wnum_any HW4.out N 4 (by decide)).mono ?_; rintro e w5 ⟨rfl, hw5, hb5⟩
         rw [show cl 4 8 = 4 by decide, HA1.out] at hw5
         have HB5 : Hid (Below w2.heap.size w2 w5) := HB4.out.trans hb5
         have HW5 : Hid (IsW w2.heap.size w5 w2.heap.size A1) := hw5
         clear hw5 hb5)
      | (go_at_call 13; refine (HNB.out _).mono ?_; rintro e w4 ⟨rfl, hb4⟩
         have HB4 : Hid (Below w2.heap.size w2 w4) := HB3.out.trans (hb4.mono HB3.out.size)
         have HW4 : Hid (IsW w2.heap.size w4 w2.heap.size []) := by
           obtain ⟨v, hv⟩ := HW3.out
           exact ⟨v, hv.kept hb4⟩
         clear hb4)
      | (go_at_call 11; refine (write_new _).mono ?_; rintro e w3 ⟨rfl, hw3, hb3⟩
         have HB3 : Hid (Below w2.heap.size w2 w3) := below_undrew hb3
         have HW3 : Hid (IsW w2.heap.size w3 w2.heap.size []) := hw3
         clear hb3 hw3))
    all_goals
      have HP6 : Hid (Octs w6 (.slice (some ⟨w.heap.size + 1, 0, none⟩) 512 512) PG) := octs_row0 ((HB6.out.block (w.heap.size + 1) HXL.out).trans HG2.out) HPS.out HPL.out (by decide)
      have HB6w : Hid (Below w.heap.size w w6) := HB2.out.trans (HB6.out.mono HB2.out.size)
      have HT6 : Hid (Steps w6) := HT.out.below HB6w.out
      clear HS HB6 HW3 HW4 HW5 HB3 HB4 HB5 HG2 HGK HNB
      go_wp2_with fail
      go_region_held3 (fun _ => True) (exact trivial) (first
        | (go_at_call 14; refine (sum_rows _ [A2, PG] _ (rows_two 24 HO7.out (HP6.out.kept HB7.out)) ((HT6.out.below HB7.out).alloc _)).mono ?_; rintro e w8 ⟨rfl, rfl⟩
           have HD8 : True := trivial)
        | (go_at_call 15; refine (wbytes_any HW6.out.drew (by rw [HL2.out]; decide)).mono ?_; rintro e w7 ⟨v7, rfl, ho7, hb7⟩
           have HO7 : Hid (Octs w7 v7 A2) := ho7
           have HB7 : Hid (Below w6.heap.size w6 w7) := below_undrew hb7
           obtain ⟨a7, c7, e7⟩ := ho7.shape
           rw [HL2.out] at e7
           subst e7
           clear ho7 hb7))
      all_goals
        have HB8 : Hid (Below w.heap.size w (w7.alloc (.cells #[.slice a7 12 c7, .slice (some ⟨w.heap.size + 1, 0, none⟩) 512 512] 24))) := (HB6w.out.trans (HB7.out.mono HB6w.out.size)).alloc (Nat.le_trans HB6w.out.size HB7.out.size) _
        go_wp2
        go_ret
        exact ⟨rfl, HB8.out⟩
  · go_enter Tryd.func6, Tryd.ntmps6
    go_wp2_with ((with_reducible show wpList _ _ _ (Oper.mk _ (Op.call ⟨Callee.builtin Builtin.copy, _, _⟩) _ _ _ _ :: _) _ _); go_must (refine wpList_copy_octsN rfl _ _ 24 24 rfl 5 Tryd.underlying24 Tryd.sizeU8s (w.heap.size + 1) 0 512 512 rfl _ zs rfl HV0.out Z 36 HG1.out (by rw [← HL.out]; omega) (by decide) (by rw [HZL.out]; omega) w.heap.size w HB0.out (Nat.le_succ _) ?_))
    intro w2 HG2 HB2 HO2
    rw [HZ.out, HP2.out (by omega)] at HG2
    have HGK : Hid (w2.heap[w.heap.size]? = some (.cells #[.int .i64 h, .int .i64 p] 23 (0, 0))) := (HO2.out.heap (by rw [HBS.out]; omega) (by omega)).trans HG0.out
    clear HG0 HG1 HV0 HBS HB0 HO2 HP1 HP2 HZ HZL hz512
    have HT2 : Hid (Steps w2) := HT.out.below HB2.out
    have HXL : Hid (w.heap.size + 1 < w2.heap.size) := lt_of_heap HG2.out
    have HS : Hid (∀ W, Below w2.heap.size w2 W → W.cell? ⟨w.heap.size, 0, none⟩ = some (.int .i64 h) ∧ W.cell? ⟨w.heap.size, 1, none⟩ = some (.int .i64 p)) := fun W hW => by
      have hh := (hW.block w.heap.size (lt_of_heap HGK.out)).trans HGK.out
      exact ⟨by rw [cell_of_row _ _ _ _ _ _ hh]; rfl, by rw [cell_of_row _ _ _ _ _ _ hh]; rfl⟩
    go_wp2_with fail
    go_region_held3 (fun w' => w'.cell? ⟨w.heap.size, 0, none⟩ = some (.int .i64 h) ∧ w'.cell? ⟨w.heap.size, 1, none⟩ = some (.int .i64 p)) (first | exact HS.out _ (Below.refl _ _).drew | exact HS.out _ HB6.out | exact HS.out _ HB5.out | exact HS.out _ HB4.out | exact HS.out _ HB3.out) (first
      | (go_at_call 12; refine (wnum_any HW5.out g 8 (by rw [HL1.out]; decide)).mono ?_; rintro e w6 ⟨rfl, hw6, hb6⟩
         rw [show cl 8 8 = 8 by decide, HA2.out] at hw6
         have HB6 : Hid (Below w2.heap.size w2 w6) := HB5.out.trans hb6
         have HW6 : Hid (IsW w2.heap.size w6 w2.heap.size A2) := hw6
         clear hw6 hb6)
      | (go_at_call 12; refine (wnum_any HW4.out N 4 (by decide)).mono ?_; rintro e w5 ⟨rfl, hw5, hb5⟩
         rw [show cl 4 8 = 4 by decide, HA1.out] at hw5
         have HB5 : Hid (Below w2.heap.size w2 w5) := HB4.out.trans hb5
         have HW5 : Hid (IsW w2.heap.size w5 w2.heap.size A1) := hw5
         clear hw5 hb5)
      | (go_at_call 13; refine (HNB.out _).mono ?_; rintro e w4 ⟨rfl, hb4⟩
         have HB4 : Hid (Below w2.heap.size w2 w4) := HB3.out.trans (hb4.mono HB3.out.size)
         have HW4 : Hid (IsW w2.heap.size w4 w2.heap.size []) := by
           obtain ⟨v, hv⟩ := HW3.out
           exact ⟨v, hv.kept hb4⟩
         clear hb4)
      | (go_at_call 11; refine (write_new _).mono ?_; rintro e w3 ⟨rfl, hw3, hb3⟩
         have HB3 : Hid (Below w2.heap.size w2 w3) := below_undrew hb3
         have HW3 : Hid (IsW w2.heap.size w3 w2.heap.size []) := hw3
         clear hb3 hw3))
    all_goals
      have HP6 : Hid (Octs w6 (.slice (some ⟨w.heap.size + 1, 0, none⟩) 512 512) PG) := octs_row0 ((HB6.out.block (w.heap.size + 1) HXL.out).trans HG2.out) HPS.out HPL.out (by decide)
      have HB6w : Hid (Below w.heap.size w w6) := HB2.out.trans (HB6.out.mono HB2.out.size)
      have HT6 : Hid (Steps w6) := HT.out.below HB6w.out
      clear HS HB6 HW3 HW4 HW5 HB3 HB4 HB5 HG2 HGK HNB
      go_wp2_with fail
      go_region_held3 (fun _ => True) (exact trivial) (first
        | (go_at_call 14; refine (sum_rows _ [A2, PG] _ (rows_two 24 HO7.out (HP6.out.kept HB7.out)) ((HT6.out.below HB7.out).alloc _)).mono ?_; rintro e w8 ⟨rfl, rfl⟩
           have HD8 : True := trivial)
        | (go_at_call 15; refine (wbytes_any HW6.out.drew (by rw [HL2.out]; decide)).mono ?_; rintro e w7 ⟨v7, rfl, ho7, hb7⟩
           have HO7 : Hid (Octs w7 v7 A2) := ho7
           have HB7 : Hid (Below w6.heap.size w6 w7) := below_undrew hb7
           obtain ⟨a7, c7, e7⟩ := ho7.shape
           rw [HL2.out] at e7
           subst e7
           clear ho7 hb7))
      all_goals
        have HB8 : Hid (Below w.heap.size w (w7.alloc (.cells #[.slice a7 12 c7, .slice (some ⟨w.heap.size + 1, 0, none⟩) 512 512] 24))) := (HB6w.out.trans (HB7.out.mono HB6w.out.size)).alloc (Nat.le_trans HB6w.out.size HB7.out.size) _
        go_wp2
        go_ret
        exact ⟨rfl, HB8.out⟩
end Go.Proofs.YtfclhehpbniapaaDoor
