/- The document's 'New' and 'Clusters'. -/
import Derived.Test.YthpodknhidgedaaDoorRefA9
namespace Go.Proofs.YthpodknhidgedaaDoor
open Go.RowKit
set_option linter.unusedVariables false

def NewR (w : World) (n : Nat) (zs : List Int) (x : Ending) (w' : World) : Prop :=
  Below w.heap.size w w' ∧ ((Good n zs ∧ ∃ p b, x = .returned (.pointer (some ⟨p, 0, none⟩)) ∧ w.heap.size ≤ b ∧ RefB w' p b n (takenB zs)) ∨ (¬ Good n zs ∧ x = .returned (.pointer none)))
theorem refNew_off (w : World) (n : Int) (v : Value) (hn : n < 1 ∨ 65536 < n) :
    Calls Tryd.prog 9 #[.int .i64 n, v] w fun x w' => x = .returned (.pointer none) ∧ w' = w := by
  by_cases h : n < 1
  · go_enter Tryd.func9, Tryd.ntmps9
    go_wp2
    go_ret
    exact ⟨rfl, rfl⟩
  · have h2 : 65536 < n := by omega
    go_enter Tryd.func9, Tryd.ntmps9
    go_wp2
    go_ret
    exact ⟨rfl, rfl⟩
set_option maxRecDepth 20000 in
set_option maxHeartbeats 1000000 in
theorem refNew9_any (w : World) (n : Nat) (v : Value) (zs : List Int) (hn1 : 1 ≤ n) (hn : n ≤ 65536) (hv : Nums w v zs) :
    Calls Tryd.prog 9 #[.int .i64 (n : Nat), v] w fun x w' => NewR w n zs x w' := by
  obtain ⟨i0, hi, hz0, hz1, hz2⟩ := info_parts Tryd.infoBool
  have HV : Hid (Nums w v zs) := hv
  obtain ⟨a, cp, rfl⟩ := hv.shape
  obtain ⟨L, hL⟩ : ∃ L, L = zs.length := ⟨_, rfl⟩
  rw [← hL] at HV ⊢
  have HL : Hid (L = zs.length) := hL
  have hLm : L ≤ 9223372036854775807 := by have := HV.out.capLe; unfold maxLen at this; omega
  clear hv hL
  have HM : Hid (∀ W : World, RefB ((W.alloc (.cells (madeCells #[Value.bool false] n) 4)).alloc (.cells #[.slice (some ⟨W.heap.size, 0, none⟩) n n] 47)) (W.heap.size + 1) W.heap.size n (takenB (zs.take 0))) := fun W => by
    rw [made_false, List.take_zero, takenB_nil]
    refine ⟨?_, ?_⟩
    · have := heap_alloc_new (W.alloc (.cells (boolL noneB n).toArray 4)) (.cells #[.slice (some ⟨W.heap.size, 0, none⟩) n n] 47)
      simpa using this
    · exact heap_in _ (heap_alloc_new W (.cells (boolL noneB n).toArray 4))
  have HM1 := HM.out w
  have HM2 : Hid (RefB ((w.alloc (.cells (madeCells #[Value.bool false] n) 4)).alloc (.cells #[.slice (some ⟨w.heap.size, 0, none⟩) n n] 47)) (w.heap.size + 1) w.heap.size n (takenB (zs.take 0))) := HM1
  have HB2 : Hid (Below w.heap.size w ((w.alloc (.cells (madeCells #[Value.bool false] n) 4)).alloc (.cells #[.slice (some ⟨w.heap.size, 0, none⟩) n n] 47))) := ((Below.refl _ _).alloc (Nat.le_refl _) _).alloc (by simp) _
  clear HM HM1
  go_enter Tryd.func9, Tryd.ntmps9
  go_wp2_with (at_make; refine wpList_make_exact _ rfl _ _ 45 rfl 4 i0 _ Tryd.underlying45 hi hz0 hz1 .i64 .i64 n rfl rfl ?c1 ?c2 ?_)
  case c1 => rw [hz2]; omega
  case c2 => unfold maxLen; omega
  go_wp2
  go_loopw [6] (fun i wr => ∃ k : Nat, i = .int .i64 (k : Nat) ∧ k ≤ L ∧ Hid (Good n (zs.take k)) ∧ Hid (RefB wr (w.heap.size + 1) w.heap.size n (takenB (zs.take k))) ∧ Hid (Below w.heap.size w wr)) (fun i _ => L - (intOf i).toNat)
  case atStart => exact ⟨0, rfl, Nat.zero_le _, good_nil _, HM2, HB2⟩
  case round =>
    obtain ⟨k, rfl, hk, hG, hR, hBe⟩ := hrel
    by_cases hlt : k < L
    · obtain ⟨g, off, rfl, hgl, hcell⟩ := HV.out.addr (by omega)
      have hc := (hBe.out.cell (p := ⟨g, off + k, none⟩) hgl).trans (hcell k hlt)
      have hkl : k < zs.length := by have := HL.out; omega
      have HSTOP : Hid (zs[k]?.getD 0 < 0 ∨ (n : Int) ≤ zs[k]?.getD 0 ∨ (∃ s : Nat, zs[k]?.getD 0 = (s : Int) ∧ takenB (zs.take k) s = true) → ¬ Good n zs) := good_stop hkl
      have HSTEP : Hid (∀ s : Nat, zs[k]?.getD 0 = (s : Int) → s < n → takenB (zs.take k) s = false → Good n (zs.take (k + 1)) ∧ takenB (zs.take (k + 1)) = putB (takenB (zs.take k)) s 1 true) := fun s h1 h2 h3 => good_step hG.out hkl h1 h2 h3
      have hsl := hR.out.s_cell
      clear hcell hgl hkl
      generalize zs[k]?.getD 0 = z at *
      by_cases hneg : z < 0
      · have HN : Hid (¬ Good n zs) := HSTOP.out (.inl hneg)
        go_wp2
        go_ret
        exact ⟨hBe.out, .inr ⟨HN.out, rfl⟩⟩
      · obtain ⟨s, hs'⟩ : ∃ s : Nat, z = (s : Int) := ⟨z.toNat, by rw [Int.toNat_of_nonneg]; omega⟩
        subst hs'
        by_cases hbig : n ≤ s
        · have HN : Hid (¬ Good n zs) := HSTOP.out (.inr (.inl (by omega)))
          go_wp2
          go_ret
          exact ⟨hBe.out, .inr ⟨HN.out, rfl⟩⟩
        · have hsn : s < n := by omega
          have hb := hR.out.b_cell s hsn
          have hbf := hR.out.b_free s
          cases hB : takenB (zs.take k) s
          · rw [hB] at hb
            obtain ⟨h1, h2⟩ := HSTEP.out s rfl hsn hB
            have H1 : Hid (Good n (zs.take (k + 1))) := h1
            have HP : Hid (RefB (wr.setCell ⟨w.heap.size, s, none⟩ (.bool true)) (w.heap.size + 1) w.heap.size n (takenB (zs.take (k + 1)))) := by rw [h2]; exact hR.out.put hsn true
            have HO : Hid (Below w.heap.size w (wr.setCell ⟨w.heap.size, s, none⟩ (.bool true))) := belowOut hBe.out (Nat.le_refl _) s _
            clear h1 h2 HSTOP HSTEP hB hbig hneg
            go_wp2
            go_roundw
            case rel => exact ⟨k + 1, by go_num, by omega, H1, HP, HO⟩
            case measure => simp [intOf]; omega
          · rw [hB] at hb
            have HN : Hid (¬ Good n zs) := HSTOP.out (.inr (.inr ⟨s, rfl, hB⟩))
            clear HSTOP HSTEP hB hbig hneg
            go_wp2
            go_ret
            exact ⟨hBe.out, .inr ⟨HN.out, rfl⟩⟩
    · obtain rfl : k = L := by omega
      have HZ : Hid (zs.take k = zs) := List.take_of_length_le (by have := HL.out; omega)
      have HE : Hid (Good n zs) := by
        have := hG.out
        rwa [HZ.out] at this
      have HE2 : Hid (RefB wr (w.heap.size + 1) w.heap.size n (takenB zs)) := by
        have := hR.out
        rwa [HZ.out] at this
      go_wp2
      go_ret
      exact ⟨hBe.out, .inl ⟨HE.out, _, _, rfl, Nat.le_refl _, HE2.out⟩⟩

/-! ### Clusters -/
theorem fr_part {B : Nat → Bool} {n c m : Nat} (ht : ∀ i, n ≤ i → B i = false) (hm : m = min 64 (n - 64 * c)) : m - cnt B (64 * c) m = fr B n c := by
  unfold fr
  rw [← hm]
  have e : (64 : Nat) = m + (64 - m) := by omega
  rw [show cnt B (64 * c) 64 = cnt B (64 * c) (m + (64 - m)) by rw [← e], cnt_add, cnt_none (k := 64 - m) fun i hi => ht _ (by omega)]
  omega
theorem frL_snoc (B : Nat → Bool) (n c : Nat) : frL B n c ++ [(fr B n c : Int)] = frL B n (c + 1) := by
  unfold frL
  rw [List.range_succ, List.map_append, List.map_singleton]
set_option maxRecDepth 20000 in
set_option maxHeartbeats 2000000 in
theorem refClusters_any (w : World) (p b n : Nat) (B : Nat → Bool) (h : RefB w p b n B) (hn : n ≤ 65536) (ht : ∀ i, n ≤ i → B i = false) :
    Calls Tryd.prog 21 #[.pointer (some ⟨p, 0, none⟩)] w fun e w' => ∃ u, e = .returned u ∧ w'.ownsRow w.heap.size 3 1 u (wn n) (nums (frL B n (wn n))) ∧ Below w.heap.size w w' := by
  obtain ⟨i0, hi, hz0, hz1, hz2⟩ := info_parts Tryd.infoI64
  have H : Hid (RefB w p b n B) := h
  have HT : Hid (∀ i, n ≤ i → B i = false) := ht
  have hwn := wn_le n hn
  clear h ht
  go_enter Tryd.func21, Tryd.ntmps21
  go_wp2
  go_loopw [3, 4] (fun v at' wr => ∃ c a : Nat, a = 64 * c ∧ at' = .int .i64 (a : Nat) ∧ c ≤ wn n ∧ Hid (wr.ownsRow w.heap.size 3 1 v c (nums (frL B n c))) ∧ Hid (Below w.heap.size w wr)) (fun _ at' _ => 65600 - (intOf at').toNat)
  case atStart => exact ⟨0, 0, rfl, rfl, Nat.zero_le _, World.ownsRow_nil _ _ _ _, Below.refl _ _⟩
  case round =>
    obtain ⟨c, a, ha, rfl, hc, hOw, hBe⟩ := hrel
    have HSZ : Hid (w.heap.size ≤ wr.heap.size) := hBe.out.size
    have HR : Hid (RefB wr p b n B) := H.out.below hBe.out
    have hsl := HR.out.s_cell
    have HA : Hid (a = 64 * c) := ha
    by_cases hlt : a < n
    · have hcl : c < wn n := by unfold wn; omega
      have HC : Hid (∀ i, i < n → World.cell? wr ⟨b, i, none⟩ = some (.bool (B i))) := fun i hi => HR.out.b_cell i hi
      obtain ⟨m, hm⟩ : ∃ m, m = min 64 (n - a) := ⟨_, rfl⟩
      have hm2 : (a + m ≤ n ∧ m ≤ 64) ∧ (m = 64 ∨ a + m = n) := by omega
      have HMM : Hid (m = min 64 (n - 64 * c)) := by unfold Hid; rw [hm, ha]
      clear hm ha
      go_wp2
      go_loop [5, 6] (fun x i => ∃ j y : Nat, i = .int .i64 ((a + j : Nat) : Int) ∧ j ≤ m ∧ x = .int .i64 (y : Nat) ∧ y ≤ j ∧ Hid (y = j - cnt B a j)) (fun _ i => a + m - (intOf i).toNat)
      case atStart => exact ⟨0, 0, by go_num, Nat.zero_le _, rfl, Nat.le_refl _, rfl⟩
      case round =>
        obtain ⟨j, y, rfl, hj, rfl, hy, HY⟩ := hrel
        by_cases hjm : j < m
        · have hcell := HC.out (a + j) (by omega)
          have HN : Hid (cnt B a (j + 1) = cnt B a j + (B (a + j)).toNat) := rfl
          have HL : Hid (cnt B a j ≤ j) := cnt_le B a j
          have hx1 : a + j < a + 64 := by omega
          have hx2 : a + j < n := by omega
          have hxb : a + j < 65536 := by omega
          have HX : Hid (∀ x, a + j = x → ((x : Nat) : Int) + 1 = ((a + (j + 1) : Nat) : Int)) := fun x hx => by omega
          generalize hx : a + j = x at *
          cases hB : B x
          · rw [hB] at hcell HN
            go_wp2
            go_round
            case rel => exact ⟨j + 1, y + 1, by (rw [← HX.out _ rfl]) <;> go_num, by omega, by go_num, by omega, by unfold Hid; have h1 := HN.out; have h2 := HY.out; have h3 := HL.out; simp at h1; omega⟩
            case measure => simp [intOf]; omega
          · rw [hB] at hcell HN
            go_wp2
            go_round
            case rel => exact ⟨j + 1, y, by (rw [← HX.out _ rfl]) <;> go_num, by omega, rfl, by omega, by unfold Hid; have h1 := HN.out; have h2 := HY.out; have h3 := HL.out; simp at h1; omega⟩
            case measure => simp [intOf]; omega
        · obtain rfl : j = m := by omega
          have HF : Hid (frL B n c ++ [(y : Int)] = frL B n (c + 1)) := by
            unfold Hid
            rw [← frL_snoc, ← fr_part HT.out HMM.out, HY.out, HA.out]
          have HC1 : Hid (((a : Nat) : Int) + 64 = ((64 * (c + 1) : Nat) : Int)) := by have := HA.out; unfold Hid; omega
          have hcmp : (((a + j : Nat) : Int) < (a : Nat) + 64 ∧ ((a + j : Nat) : Int) < (n : Nat)) = False := eq_false (by omega)
          have hy64 : y ≤ 64 := by omega
          by_cases hm6 : j = 64
          · subst hm6
            go_wp2_with (at_builtin; (refine wpList_append_nums _ rfl _ _ 22 rfl w.heap.size 3 i0 Tryd.underlying22 hi hz0 hz1 hz2 u3 c (frL B n c) rfl (hOw.out.alloc _) _ [(y : Int)] rfl (Nums.one ⟨by omega, by omega⟩) ?d1 ?d2 ?_; (case d1 => simp; omega); (case d2 => simp; exact Nat.le_succ_of_le HSZ.out); intro v7 w7 hown7 hg7 _; rw [HF.out] at hown7; have HO7 : Hid (w7.ownsRow w.heap.size 3 1 v7 (c + 1) (nums (frL B n (c + 1)))) := hown7; have HB7 : Hid (Below w.heap.size w w7) := grewAny (hBe.out.alloc HSZ.out _) (hOw.out.alloc _) hg7 (by simp; exact Nat.le_succ_of_le HSZ.out); clear hown7 hg7))
            go_roundw
            case rel => exact ⟨c + 1, 64 * (c + 1), rfl, by (rw [← HC1.out]) <;> go_num, by omega, HO7, HB7⟩
            case measure => simp [intOf]; omega
          · have hmn2 : ((a : Nat) : Int) + (j : Nat) = (n : Nat) := by omega
            have hj64 : j < 64 := by omega
            go_wp2_with (at_builtin; (refine wpList_append_nums _ rfl _ _ 22 rfl w.heap.size 3 i0 Tryd.underlying22 hi hz0 hz1 hz2 u3 c (frL B n c) rfl (hOw.out.alloc _) _ [(y : Int)] rfl (Nums.one ⟨by omega, by omega⟩) ?d1 ?d2 ?_; (case d1 => simp; omega); (case d2 => simp; exact Nat.le_succ_of_le HSZ.out); intro v7 w7 hown7 hg7 _; rw [HF.out] at hown7; have HO7 : Hid (w7.ownsRow w.heap.size 3 1 v7 (c + 1) (nums (frL B n (c + 1)))) := hown7; have HB7 : Hid (Below w.heap.size w w7) := grewAny (hBe.out.alloc HSZ.out _) (hOw.out.alloc _) hg7 (by simp; exact Nat.le_succ_of_le HSZ.out); clear hown7 hg7))
            go_roundw
            case rel => exact ⟨c + 1, 64 * (c + 1), rfl, by (rw [← HC1.out]) <;> go_num, by omega, HO7, HB7⟩
            case measure => simp [intOf]; omega
    · obtain rfl : c = wn n := by unfold wn at hc ⊢; omega
      go_wp2
      go_ret
      exact ⟨_, rfl, hOw.out, hBe.out⟩
end Go.Proofs.YthpodknhidgedaaDoor
