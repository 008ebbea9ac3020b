/- The walk of the law 'DiskTorn': it returns true for every input. -/
import Derived.Test.YtjjodmppneonjaaLawOff
namespace Go.Proofs.Ytjjodmppneonjaa
open Go.RowKit
set_option linter.unusedVariables false

theorem fourth (c : Int) (h1 : -9223372036854775808 ≤ c) (h2 : c ≤ 9223372036854775807) : ∃ k : Nat, k < 4 ∧ (wrap64 (c.tmod 4 + 4)).tmod 4 = (k : Int) := by
  have h3 := Int.tmod_lt_of_pos c (show (0 : Int) < 4 by decide)
  have h4 := Int.lt_tmod_of_pos c (show (0 : Int) < 4 by decide)
  have e : wrap64 (c.tmod 4 + 4) = c.tmod 4 + 4 := by unfold wrap64; omega
  rw [e]
  have h5 := Int.tmod_nonneg 4 (show 0 ≤ c.tmod 4 + 4 by omega)
  have h6 := Int.tmod_lt_of_pos (c.tmod 4 + 4) (show (0 : Int) < 4 by decide)
  obtain ⟨k, hk⟩ := Int.eq_ofNat_of_zero_le h5
  exact ⟨k, by omega, hk⟩

/-- A sector of one octet. -/
def secC (p : Nat) (hp : p < 256) : Sec := ⟨List.replicate 128 p, by simp, fun x hx => by rw [List.eq_of_mem_replicate hx]; exact hp⟩
/-- A row that is filled up to a place. -/
def fillA (p j : Nat) : Array Value := (List.replicate j (Value.int .u8 (p : Nat)) ++ List.replicate (128 - j) (Value.int .u8 0)).toArray
theorem fillA_zero (p : Nat) : fillA p 0 = madeCells #[.int .u8 0] 128 := by
  have e : madeCells #[Value.int .u8 0] 128 = (List.replicate 128 (Value.int .u8 0)).toArray := by
    have := made_list
    rw [← this]; rfl
  rw [e]; simp [fillA]
theorem fillA_full (p : Nat) (hp : p < 256) : fillA p 128 = (secC p hp).cells.toArray := by
  simp [fillA, secC, Sec.cells, u8s]
theorem fillA_get (p j i : Nat) (h : i < 128) (hj : j ≤ 128) : (fillA p j)[i]? = some (if i < j then .int .u8 (p : Nat) else .int .u8 0) := by
  unfold fillA
  rw [List.getElem?_toArray]
  by_cases e : i < j
  · rw [if_pos e, List.getElem?_append_left (by simpa using e), List.getElem?_replicate, if_pos e]
  · rw [if_neg e, List.getElem?_append_right (by simp; omega), List.getElem?_replicate, if_pos (by simp; omega)]
theorem fillA_size (p j : Nat) (hj : j ≤ 128) : (fillA p j).size = 128 := by simp [fillA]; omega
theorem fillA_succ (p j : Nat) (hj : j < 128) : (fillA p j).setIfInBounds j (.int .u8 (p : Nat)) = fillA p (j + 1) := by
  apply Array.ext_getElem?
  intro i
  rw [Array.getElem?_setIfInBounds, fillA_size p j (by omega)]
  by_cases hi : i < 128
  · rw [fillA_get p (j + 1) i hi (by omega)]
    by_cases e : j = i
    · subst e
      rw [if_pos rfl, if_pos hj, if_pos (by omega)]
    · rw [if_neg e, fillA_get p j i hi (by omega)]
      by_cases e2 : i < j
      · rw [if_pos e2, if_pos (by omega)]
      · rw [if_neg e2, if_neg (by omega)]
  · rw [if_neg (by omega), Array.getElem?_eq_none (by rw [fillA_size p j (by omega)]; omega), Array.getElem?_eq_none (by rw [fillA_size p (j + 1) (by omega)]; omega)]

/-- The disk behind j writes of the old sector. -/
def oldSt (so : Sec) (j : Nat) : St := { n := 4, safe := fun _ => Sec.zero, waits := (List.range j).map fun i => (i, so), written := j, left := -1 }
theorem old_succ (so : Sec) (j : Nat) : (oldSt so j).wait j so = oldSt so (j + 1) := by
  refine St.ext' rfl rfl ?_ ?_ ?_
  · simp [St.wait, oldSt, List.range_succ]
  · rfl
  · rfl
def tornSt (so sn : Sec) (k : Nat) (cut : Int) : St := ((oldSt so 4).spent.flushed.wait k sn).crashed [] 0 cut
theorem torn_see (so sn : Sec) (k : Nat) (cut : Int) (r : Nat) (hr : r < 4) : (tornSt so sn k cut).see r = if r = k ∧ 0 < cut ∧ cut < 128 then tear so sn cut.toNat else so := by
  have e1 : ∀ i, i < 4 → (oldSt so 4).spent.flushed.safe i = so := by
    intro i hi
    have : i = 0 ∨ i = 1 ∨ i = 2 ∨ i = 3 := by omega
    rcases this with rfl | rfl | rfl | rfl <;> rfl
  rw [see_none (by rfl)]
  show crashTo [] ((0 : Nat) : Int) cut (oldSt so 4).spent.flushed.safe [(k, sn)] (0 + 1) r = _
  by_cases h : 0 < cut ∧ cut < 128
  · rw [crashTo_torn (p := (k, sn)) rfl (by simp) ⟨rfl, h⟩]
    show upd _ k (tear ((oldSt so 4).spent.flushed.safe k) sn cut.toNat) r = _
    by_cases e : r = k
    · subst e
      rw [if_pos ⟨rfl, h⟩, e1 r hr]
      exact if_pos rfl
    · rw [if_neg (fun hh => e hh.1)]
      exact (if_neg e).trans (e1 r hr)
  · rw [crashTo_lost (p := (k, sn)) rfl (by simp) (fun hh => h hh.2), if_neg (fun hh => h hh.2)]
    exact e1 r hr
theorem secsN_at (f : Nat → Sec) (m : Nat) : ∀ r t, r < m → t < 128 → (secsN f 0 m)[128 * r + t]? = (f r).l[t]? := by
  induction m with
  | zero => intro r t h; omega
  | succ m ih =>
    intro r t hr ht
    rw [secsN_succ, Nat.zero_add]
    by_cases e : r = m
    · subst e
      rw [List.getElem?_append_right (by rw [secsN_length]; omega), secsN_length]
      congr 1
      omega
    · rw [List.getElem?_append_left (by rw [secsN_length]; omega)]
      exact ih r t (by omega) ht
theorem torn_at (p q : Nat) (hp : p < 256) (hq : q < 256) (k : Nat) (cut : Int) (r t : Nat) (hr : r < 4) (ht : t < 128) :
    (secsN (tornSt (secC p hp) (secC q hq) k cut).see 0 4)[128 * r + t]? = some (if r = k ∧ 1 ≤ cut ∧ cut ≤ 127 ∧ (t : Int) < cut then q else p) := by
  rw [secsN_at _ 4 r t hr ht, torn_see _ _ _ _ r hr]
  by_cases h : r = k ∧ 0 < cut ∧ cut < 128
  · rw [if_pos h]
    obtain ⟨h1, h2, h3⟩ := h
    obtain ⟨c, rfl⟩ := Int.eq_ofNat_of_zero_le (show 0 ≤ cut by omega)
    show (List.take c (List.replicate 128 q) ++ List.drop c (List.replicate 128 p))[t]? = _
    rw [List.take_replicate, List.drop_replicate]
    by_cases e : t < c
    · rw [if_pos ⟨h1, by omega, by omega, by omega⟩, List.getElem?_append_left (by rw [List.length_replicate]; omega), List.getElem?_replicate, if_pos (by omega)]
    · rw [if_neg (by omega), List.getElem?_append_right (by rw [List.length_replicate]; omega), List.getElem?_replicate, if_pos (by rw [List.length_replicate]; omega)]
  · rw [if_neg h, if_neg (by omega)]
    show (List.replicate 128 p)[t]? = _
    rw [List.getElem?_replicate, if_pos ht]

theorem octs_of_block {w : World} {X : Nat} {s : Sec} {t : TypeId} (h : w.heap[X]? = some (.cells s.cells.toArray t (0, 0))) : Octs w (.slice (some ⟨X, 0, none⟩) 128 128) s.l := by
  refine ⟨s.oct, by rw [s.len]; decide, _, 128, by rw [s.len], by rw [s.len]; exact Nat.le_refl _, by decide, .inr ⟨_, rfl, .inr ⟨_, 0, rfl, (Array.getElem?_eq_some_iff.1 h).1, ?_⟩⟩⟩
  intro j hj
  rw [cell_of_row _ _ _ _ _ _ h, Nat.zero_add]
  simp [Sec.cells, u8s, List.getElem?_eq_getElem hj]
theorem Try.make128 (w : World) : (Instr.makeSlice 22 (.int .i64 128) (.int .i64 128)).run Try.prog w = .ok (.slice (some ⟨w.heap.size, 0, none⟩) 128 128) (w.alloc (.cells (madeCells #[.int .u8 0] 128) 5)) := by
  obtain ⟨i0, hi, hz0, hz1, hz2⟩ := info_parts Try.infoU8d
  have := run_make (P := Try.prog) w 22 5 i0 (.int .u8 0) Try.underlying22 hi hz0 .i64 .i64 128 128 (by decide) (by decide) (by rw [hz2]; decide) (by decide)
  rw [hz1] at this
  exact this
set_option maxRecDepth 100000 in
set_option maxHeartbeats 2000000 in
theorem torn_main (c cut : Int) (p q : Nat) (hp : p < 256) (hq : q < 256) (w : World) (h1 : -9223372036854775808 ≤ c) (h2 : c ≤ 9223372036854775807) :
    Calls Try.prog 6 #[.int .i64 c, .int .i64 cut, .agg #[.int .u8 (p : Nat), .int .u8 (q : Nat)]] w fun e w' => e = .returned (.bool true) ∧ Below w.heap.size w w' := by
  obtain ⟨i0, hi, hz0, hz1, hz2⟩ := info_parts Try.infoU8d
  obtain ⟨k, hk4, hk⟩ := fourth c h1 h2
  have hbx := heap_alloc_last w (.cells #[.int .u8 (p : Nat), .int .u8 (q : Nat)] 48)
  have HBX : Hid ((w.alloc (.cells #[.int .u8 (p : Nat), .int .u8 (q : Nat)] 48)).heap[w.heap.size]? = some (.cells #[.int .u8 (p : Nat), .int .u8 (q : Nat)] 48 (0, 0))) := hbx
  obtain ⟨Wb, hWb⟩ : ∃ Wb, w.alloc (.cells #[.int .u8 (p : Nat), .int .u8 (q : Nat)] 48) = Wb := ⟨_, rfl⟩
  have HWB : Hid (Below w.heap.size w Wb) := by rw [← hWb]; exact (Below.refl _ w).alloc (Nat.le_refl _) _
  have hWs : Wb.heap.size = w.heap.size + 1 := by rw [← hWb]; simp
  rw [hWb] at HBX
  clear hbx
  go_enter Try.func6, Try.ntmps6
  go_wp2_with fail
  clear hWb
  refine (awake3 _).mono ?_
  rintro e w1 ⟨rfl, hb1⟩
  have hs1 : w.heap.size + 1 ≤ w1.heap.size := by have := hb1.size; omega
  have HB1 : Hid (Kept (fun k => k < w.heap.size + 1) Wb w1) := Kept.ofBelow hb1 (fun k hk => by omega)
  clear hb1
  go_wp2_with fail
  refine (new_v (fun k => k < w.heap.size + 1) w1 4 (by decide) (by decide) (fun k hk => by omega)).mono ?_
  rintro e w2 ⟨L, rfl, hD, hb2, _⟩
  have hs2 : w1.heap.size ≤ w2.heap.size := hb2.size
  have HD2 : Hid (IsDisk (fun k => k < w.heap.size + 1) w2 L (freshSt 4)) := hD
  have HB2 : Hid (Kept (fun k => k < w.heap.size + 1) Wb w2) := HB1.out.trans (Kept.ofBelow hb2 (fun k hk => by omega))
  clear hD hb2
  have hmk := Try.make128
  have HG : Hid (∀ X Y, (X = w2.heap.size ∧ Y = w2.heap.size + 1) ∨ (X = w2.heap.size + 1 ∧ Y = w2.heap.size) → X ≠ Y ∧ ((w2.alloc (.cells (madeCells #[.int .u8 0] 128) 5)).alloc (.cells (madeCells #[.int .u8 0] 128) 5)).drew.heap[X]? = some (.cells (fillA p 0) 5 (0, 0)) ∧ ((w2.alloc (.cells (madeCells #[.int .u8 0] 128) 5)).alloc (.cells (madeCells #[.int .u8 0] 128) 5)).drew.heap[Y]? = some (.cells (fillA q 0) 5 (0, 0)) ∧ (∃ wv, IsDisk (fun k => k < w.heap.size + 1 ∨ k = X ∨ k = Y) ((w2.alloc (.cells (madeCells #[.int .u8 0] 128) 5)).alloc (.cells (madeCells #[.int .u8 0] 128) 5)).drew { L with wv := wv } (freshSt 4)) ∧ Kept (fun k => k < w.heap.size + 1) Wb ((w2.alloc (.cells (madeCells #[.int .u8 0] 128) 5)).alloc (.cells (madeCells #[.int .u8 0] 128) 5)).drew) := by
    intro X Y hXY
    rw [fillA_zero, fillA_zero]
    generalize madeCells #[Value.int .u8 0] 128 = M
    have g0 : ((w2.alloc (.cells M 5)).alloc (.cells M 5)).drew.heap[w2.heap.size]? = some (.cells M 5 (0, 0)) := (Below.heap_alloc _ _ _ (by simp)).trans (heap_alloc_last w2 _)
    have g1 : ((w2.alloc (.cells M 5)).alloc (.cells M 5)).drew.heap[w2.heap.size + 1]? = some (.cells M 5 (0, 0)) := by
      have := heap_alloc_last (w2.alloc (.cells M 5)) (.cells M 5)
      rw [World.size_alloc] at this
      exact this
    have gd : IsDisk (fun k => k < w.heap.size + 1 ∨ k = X ∨ k = Y) ((w2.alloc (.cells M 5)).alloc (.cells M 5)).drew L (freshSt 4) := by
      refine ((HD2.out.alloc _).alloc _).drew.turnK (fun k hf hk => ?_) (fun k hk => ?_)
      · have h7 := HD2.out.lt k hf
        rcases hk with hk | hk
        · exact HD2.out.nK k hf hk
        · omega
      · show k < ((w2.alloc (.cells M 5)).alloc (.cells M 5)).heap.size
        simp
        omega
    have gk : Kept (fun k => k < w.heap.size + 1) Wb ((w2.alloc (.cells M 5)).alloc (.cells M 5)).drew := ((HB2.out.alloc (fun k hk => by omega) _).alloc (fun k hk => by simp; omega) _).drew
    rcases hXY with ⟨rfl, rfl⟩ | ⟨rfl, rfl⟩
    · exact ⟨by omega, g0, g1, ⟨L.wv, gd⟩, gk⟩
    · exact ⟨by omega, g1, g0, ⟨L.wv, gd⟩, gk⟩
  go_wp2_with fail
  go_region
  · have G := HG.out w2.heap.size (w2.heap.size + 1) (.inl ⟨rfl, rfl⟩)
    have x9 : w.heap.size + 1 ≤ w2.heap.size := by omega
    have y9 : w.heap.size + 1 ≤ w2.heap.size + 1 := by omega
    clear HG hmk HD2 HB2 hs1 hs2 HB1
    generalize ((w2.alloc (.cells (madeCells #[.int .u8 0] 128) 5)).alloc (.cells (madeCells #[.int .u8 0] 128) 5)).drew = W3 at G ⊢
    generalize w2.heap.size + 1 = Y at G y9 ⊢
    generalize w2.heap.size = X at G x9 ⊢
    have hXY : X ≠ Y := G.1
    have HX0 : Hid (W3.heap[X]? = some (.cells (fillA p 0) 5 (0, 0))) := G.2.1
    have HY0 : Hid (W3.heap[Y]? = some (.cells (fillA q 0) 5 (0, 0))) := G.2.2.1
    have HDK0 : Hid ((∃ wv, IsDisk (fun k => k < w.heap.size + 1 ∨ k = X ∨ k = Y) W3 { L with wv := wv } (freshSt 4)) ∧ Kept (fun k => k < w.heap.size + 1) Wb W3) := G.2.2.2
    clear G
    go_wp2_with fail
    go_loopw [12] (fun i wr => ∃ j : Nat, i = .int .i64 j ∧ j ≤ 128 ∧ wr.heap[X]? = some (.cells (fillA p j) 5 (0, 0)) ∧ wr.heap[Y]? = some (.cells (fillA q j) 5 (0, 0)) ∧ (∃ wv, IsDisk (fun k => k < w.heap.size + 1 ∨ k = X ∨ k = Y) wr { L with wv := wv } (freshSt 4)) ∧ Kept (fun k => k < w.heap.size + 1) Wb wr) (fun i _ => 128 - (intOf i).toNat)
    case atStart => exact ⟨0, rfl, by omega, HX0.out, HY0.out, HDK0.out⟩
    case round =>
      obtain ⟨j, rfl, hj, hX, hY, ⟨wv, hD⟩, hkp⟩ := hrel
      have HD : Hid (IsDisk (fun k => k < w.heap.size + 1 ∨ k = X ∨ k = Y) wr { L with wv := wv } (freshSt 4)) := hD
      have HKP : Hid (Kept (fun k => k < w.heap.size + 1) Wb wr) := hkp
      have hbw : wr.heap[w.heap.size]? = some (.cells #[.int .u8 (p : Nat), .int .u8 (q : Nat)] 48 (0, 0)) := (hkp.block w.heap.size (by omega)).trans HBX.out
      by_cases hlt : j < 128
      · have hXl := (Array.getElem?_eq_some_iff.1 hX).1
        have hYl := (Array.getElem?_eq_some_iff.1 hY).1
        have nX : X ≠ w.heap.size := by omega
        have nY : Y ≠ w.heap.size := by omega
        have b0 : wr.cell? ⟨w.heap.size, 0, none⟩ = some (.int .u8 (p : Nat)) := by rw [cell_of_row _ _ _ _ _ _ hbw]; rfl
        have b1 : wr.cell? ⟨w.heap.size, 1, none⟩ = some (.int .u8 (q : Nat)) := by rw [cell_of_row _ _ _ _ _ _ hbw]; rfl
        have cX : ∃ u, wr.cell? ⟨X, j, none⟩ = some u := by rw [cell_of_row _ _ _ _ _ _ hX, fillA_get p j j hlt hj]; exact ⟨_, rfl⟩
        have cY : ∃ u, wr.cell? ⟨Y, j, none⟩ = some u := by rw [cell_of_row _ _ _ _ _ _ hY, fillA_get q j j hlt hj]; exact ⟨_, rfl⟩
        obtain ⟨uX, cX⟩ := cX
        obtain ⟨uY, cY⟩ := cY
        have fX : wr.frozen? ⟨X, j, none⟩ = false := by unfold World.frozen?; simp only [hX]; simp
        have fY : wr.frozen? ⟨Y, j, none⟩ = false := by unfold World.frozen?; simp only [hY]; simp
        have cY2 : (wr.setCell ⟨X, j, none⟩ (.int .u8 (p : Nat))).cell? ⟨Y, j, none⟩ = some uY := by rw [cell_other _ _ _ _ (show Y ≠ X from hXY.symm)]; exact cY
        have fY2 : (wr.setCell ⟨X, j, none⟩ (.int .u8 (p : Nat))).frozen? ⟨Y, j, none⟩ = false := by rw [World.frozen?_setCell]; exact fY
        have HS0 : Hid (wr.cell? ⟨w.heap.size, 0, none⟩ = some (.int .u8 (p : Nat)) ∧ wr.cell? ⟨w.heap.size, 1, none⟩ = some (.int .u8 (q : Nat))) := ⟨b0, b1⟩
        have HS1 : Hid ((wr.setCell ⟨X, j, none⟩ (.int .u8 (p : Nat))).cell? ⟨w.heap.size, 0, none⟩ = some (.int .u8 (p : Nat)) ∧ (wr.setCell ⟨X, j, none⟩ (.int .u8 (p : Nat))).cell? ⟨w.heap.size, 1, none⟩ = some (.int .u8 (q : Nat))) := ⟨(cell_other _ _ _ _ nX.symm).trans b0, (cell_other _ _ _ _ nX.symm).trans b1⟩
        have HS2 : Hid (((wr.setCell ⟨X, j, none⟩ (.int .u8 (p : Nat))).setCell ⟨Y, j, none⟩ (.int .u8 (q : Nat))).cell? ⟨w.heap.size, 0, none⟩ = some (.int .u8 (p : Nat)) ∧ ((wr.setCell ⟨X, j, none⟩ (.int .u8 (p : Nat))).setCell ⟨Y, j, none⟩ (.int .u8 (q : Nat))).cell? ⟨w.heap.size, 1, none⟩ = some (.int .u8 (q : Nat))) := ⟨(cell_other _ _ _ _ nY.symm).trans HS1.out.1, (cell_other _ _ _ _ nY.symm).trans HS1.out.2⟩
        have HF : Hid (((wr.setCell ⟨X, j, none⟩ (.int .u8 (p : Nat))).setCell ⟨Y, j, none⟩ (.int .u8 (q : Nat))).heap[X]? = some (.cells (fillA p (j + 1)) 5 (0, 0)) ∧ ((wr.setCell ⟨X, j, none⟩ (.int .u8 (p : Nat))).setCell ⟨Y, j, none⟩ (.int .u8 (q : Nat))).heap[Y]? = some (.cells (fillA q (j + 1)) 5 (0, 0)) ∧ (∃ wv, IsDisk (fun k => k < w.heap.size + 1 ∨ k = X ∨ k = Y) ((wr.setCell ⟨X, j, none⟩ (.int .u8 (p : Nat))).setCell ⟨Y, j, none⟩ (.int .u8 (q : Nat))) { L with wv := wv } (freshSt 4)) ∧ Kept (fun k => k < w.heap.size + 1) Wb ((wr.setCell ⟨X, j, none⟩ (.int .u8 (p : Nat))).setCell ⟨Y, j, none⟩ (.int .u8 (q : Nat)))) := by
          have r1 := heap_set_row hX j (.int .u8 (p : Nat))
          rw [fillA_succ p j hlt] at r1
          have r2 := heap_set_row ((Below.heap_setCell wr ⟨X, j, none⟩ (.int .u8 (p : Nat)) Y hXY.symm).trans hY) j (.int .u8 (q : Nat))
          rw [fillA_succ q j hlt] at r2
          refine ⟨(Below.heap_setCell _ ⟨Y, j, none⟩ _ X hXY).trans r1, r2, ⟨wv, (HD.out.beside (p := ⟨X, j, none⟩) (.inr (.inl rfl)) _).beside (p := ⟨Y, j, none⟩) (.inr (.inr rfl)) _⟩, ?_⟩
          have n1 : ¬ X < w.heap.size + 1 := by omega
          have n2 : ¬ Y < w.heap.size + 1 := by omega
          exact (HKP.out.setCell (p := ⟨X, j, none⟩) n1 _).setCell (p := ⟨Y, j, none⟩) n2 _
        have i1 : (0 : Int) ≤ (j : Int) := by omega
        have i2 : (j : Int) < 128 := by omega
        clear hX hY hD hkp hbw
        go_wp2_with fail
        go_region_held3 (fun w' : World => w'.cell? ⟨w.heap.size, 0, none⟩ = some (.int .u8 (p : Nat)) ∧ w'.cell? ⟨w.heap.size, 1, none⟩ = some (.int .u8 (q : Nat))) (first | exact HS0.out | exact HS1.out | exact HS2.out) (fail)
        go_wp2
        go_roundw
        case rel => exact ⟨j + 1, by simp, by omega, HF.out.1, HF.out.2.1, by obtain ⟨wv9, h9⟩ := HF.out.2.2.1; exact ⟨wv9, h9.drew⟩, HF.out.2.2.2.drew⟩
        case measure => simp [intOf]; omega
      · have e128 : j = 128 := by omega
        rw [e128, fillA_full p hp] at hX
        rw [e128, fillA_full q hq] at hY
        clear e128
        have HX : Hid (wr.heap[X]? = some (.cells (secC p hp).cells.toArray 5 (0, 0)) ∧ wr.heap[Y]? = some (.cells (secC q hq).cells.toArray 5 (0, 0))) := ⟨hX, hY⟩
        clear hX hY hD hkp hbw
        go_wp2_with fail
        go_loopw [13] (fun i wr => ∃ j : Nat, i = .int .i64 j ∧ j ≤ 4 ∧ (wr.heap[X]? = some (.cells (secC p hp).cells.toArray 5 (0, 0)) ∧ wr.heap[Y]? = some (.cells (secC q hq).cells.toArray 5 (0, 0))) ∧ (∃ wv, IsDisk (fun k => k < w.heap.size + 1 ∨ k = X ∨ k = Y) wr { L with wv := wv } (oldSt (secC p hp) j)) ∧ Kept (fun k => k < w.heap.size + 1) Wb wr) (fun i _ => 4 - (intOf i).toNat)
        case atStart => exact ⟨0, rfl, by omega, HX.out, ⟨wv, HD.out⟩, HKP.out⟩
        case round =>
          clear HX HD HKP wv
          obtain ⟨j, rfl, hj, hXY2, ⟨wv, hD⟩, hkp⟩ := hrel
          have HX : Hid (wr.heap[X]? = some (.cells (secC p hp).cells.toArray 5 (0, 0)) ∧ wr.heap[Y]? = some (.cells (secC q hq).cells.toArray 5 (0, 0))) := hXY2
          have HD : Hid (IsDisk (fun k => k < w.heap.size + 1 ∨ k = X ∨ k = Y) wr { L with wv := wv } (oldSt (secC p hp) j)) := hD
          have HKP : Hid (Kept (fun k => k < w.heap.size + 1) Wb wr) := hkp
          clear hXY2 hD hkp
          by_cases hlt : j < 4
          · go_wp2_with fail
            refine (write_one HD.out j (secC p hp) X 128 (octs_of_block HX.out.1) (.inr (.inl rfl)) hlt (by show (-1 : Int) ≠ 0; decide) (by show ((List.range j).map _).length < _; simp; omega) (by show j < _; omega)).mono ?_
            rintro e w6 ⟨rfl, ⟨wv6, hD6⟩, hk6⟩
            rw [old_succ] at hD6
            have HF : Hid ((w6.heap[X]? = some (.cells (secC p hp).cells.toArray 5 (0, 0)) ∧ w6.heap[Y]? = some (.cells (secC q hq).cells.toArray 5 (0, 0))) ∧ (∃ wv, IsDisk (fun k => k < w.heap.size + 1 ∨ k = X ∨ k = Y) w6 { L with wv := wv } (oldSt (secC p hp) (j + 1))) ∧ Kept (fun k => k < w.heap.size + 1) Wb w6) :=
              ⟨⟨(hk6.block X (.inr (.inl rfl))).trans HX.out.1, (hk6.block Y (.inr (.inr rfl))).trans HX.out.2⟩, ⟨wv6, hD6⟩, HKP.out.trans (hk6.mono (fun k hk => .inl hk))⟩
            clear hD6 hk6
            go_wp2
            go_roundw
            case rel => exact ⟨j + 1, by simp, by omega, HF.out⟩
            case measure => simp [intOf]; omega
          · have e4 : j = 4 := by omega
            rw [e4] at HD
            clear e4
            go_wp2_with fail
            refine (flush_ok HD.out (by show (-1 : Int) ≠ 0; decide)).mono ?_
            rintro e w5 ⟨rfl, hD5, hk5⟩
            have HD5 : Hid (IsDisk (fun k => k < w.heap.size + 1 ∨ k = X ∨ k = Y) w5 { L with wv := .slice none 0 0 } (oldSt (secC p hp) 4).spent.flushed) := hD5
            have HY5 : Hid (w5.heap[Y]? = some (.cells (secC q hq).cells.toArray 5 (0, 0))) := (hk5.block Y (.inr (.inr rfl))).trans HX.out.2
            have HK5 : Hid (Kept (fun k => k < w.heap.size + 1) Wb w5) := HKP.out.trans (hk5.mono (fun k hk => .inl hk))
            clear hD5 hk5
            go_wp2_with fail
            refine (write_one HD5.out k (secC q hq) Y 128 (octs_of_block HY5.out) (.inr (.inr rfl)) hk4 (by show (-1 : Int) ≠ 0; decide) (by show 0 < _; decide) (by show 4 < _; decide)).mono ?_
            rintro e w6 ⟨rfl, ⟨wv6, hD6⟩, hk6⟩
            have HD6 : Hid (IsDisk (fun k => k < w.heap.size + 1 ∨ k = X ∨ k = Y) w6 { L with wv := wv6 } ((oldSt (secC p hp) 4).spent.flushed.wait k (secC q hq))) := hD6
            have HK6 : Hid (Kept (fun k => k < w.heap.size + 1) Wb w6) := HK5.out.trans (hk6.mono (fun k hk => .inl hk))
            clear hD6 hk6
            go_wp2_with fail
            refine (crash_v HD6.out _ [] (Ints.nil _) 0 cut).mono ?_
            rintro e w7 ⟨rfl, hD7, hk7⟩
            rw [show keptTo [] ((oldSt (secC p hp) 4).spent.flushed.wait k (secC q hq)).waits.length = 0 from rfl]
            have HD7 : Hid (IsDisk (fun k => k < w.heap.size + 1 ∨ k = X ∨ k = Y) w7 { L with wv := .slice none 0 0 } (tornSt (secC p hp) (secC q hq) k cut)) := hD7
            have HK7 : Hid (Kept (fun k => k < w.heap.size + 1) Wb w7) := HK6.out.trans (hk7.mono (fun k hk => .inl hk))
            clear hD7 hk7
            go_wp2_with fail
            refine (image_v HD7.out).mono ?_
            rintro e w8 ⟨v, rfl, ho, hb8⟩
            have hol : (secsN (tornSt (secC p hp) (secC q hq) k cut).see 0 (tornSt (secC p hp) (secC q hq) k cut).n).length = 512 := secsN_length _ _ _
            obtain ⟨x, cap, rfl⟩ := ho.shape
            rw [hol] at ho ⊢
            obtain ⟨g, off, rfl, hgl, hoc⟩ := ho.addr (by decide)
            have HOC : Hid (∀ r t, r < 4 → t < 128 → w8.cell? ⟨g, off + (128 * r + t), none⟩ = some (.int .u8 ((if r = k ∧ 1 ≤ cut ∧ cut ≤ 127 ∧ (t : Int) < cut then q else p : Nat) : Int))) := by
              intro r t hr ht
              rw [hoc (128 * r + t) (by rw [hol]; omega)]
              have := torn_at p q hp hq k cut r t hr ht
              rw [show (tornSt (secC p hp) (secC q hq) k cut).n = 4 from rfl, this]
              rfl
            have HK8 : Hid (Kept (fun k => k < w.heap.size + 1) Wb w8) := HK7.out.trans (Kept.ofBelow hb8 (fun k hk => HD7.out.kl k (.inl hk)))
            have hbw : w8.heap[w.heap.size]? = some (.cells #[.int .u8 (p : Nat), .int .u8 (q : Nat)] 48 (0, 0)) := (HK8.out.block w.heap.size (by omega)).trans HBX.out
            have b0 : w8.cell? ⟨w.heap.size, 0, none⟩ = some (.int .u8 (p : Nat)) := by rw [cell_of_row _ _ _ _ _ _ hbw]; rfl
            have b1 : w8.cell? ⟨w.heap.size, 1, none⟩ = some (.int .u8 (q : Nat)) := by rw [cell_of_row _ _ _ _ _ _ hbw]; rfl
            clear ho hoc hb8 hol hbw
            go_wp2_with fail
            go_loop [16] (fun i => ∃ j : Nat, i = .int .i64 j ∧ j ≤ 512) (fun i => 512 - (intOf i).toNat)
            case atStart => exact ⟨0, rfl, by omega⟩
            case round =>
              obtain ⟨j, rfl, hj⟩ := hrel
              by_cases hlt : j < 512
              · obtain ⟨r, t, hjr, ht⟩ : ∃ r t, j = 128 * r + t ∧ t < 128 := ⟨j / 128, j % 128, by omega, by omega⟩
                have hr : r < 4 := by omega
                have hcell := HOC.out r t hr ht
                rw [← hjr] at hcell
                have e1 : (j : Int) / 128 = (r : Int) := by omega
                have e2 : (j : Int) % 128 = (t : Int) := by omega
                have e3 : (j : Int).tmod 128 = (t : Int) := by rw [Int.tmod_eq_emod_of_nonneg (by omega)]; exact e2
                have e4 : (j : Int).tdiv 128 = (r : Int) := by rw [Int.tdiv_eq_ediv_of_nonneg (by omega)]; exact e1
                clear hjr
                by_cases a1 : r = k
                · subst a1
                  by_cases a2 : 1 ≤ cut
                  · by_cases a3 : cut ≤ 127
                    · by_cases a4 : (t : Int) < cut
                      · rw [if_pos ⟨rfl, a2, a3, a4⟩] at hcell
                        go_wp2
                        go_round
                        case rel => exact ⟨j + 1, by simp, by omega⟩
                        case measure => simp [intOf]; omega
                      · rw [if_neg (fun h => a4 h.2.2.2)] at hcell
                        go_wp2
                        go_round
                        case rel => exact ⟨j + 1, by simp, by omega⟩
                        case measure => simp [intOf]; omega
                    · rw [if_neg (fun h => a3 h.2.2.1)] at hcell
                      go_wp2
                      go_round
                      case rel => exact ⟨j + 1, by simp, by omega⟩
                      case measure => simp [intOf]; omega
                  · rw [if_neg (fun h => a2 h.2.1)] at hcell
                    go_wp2
                    go_round
                    case rel => exact ⟨j + 1, by simp, by omega⟩
                    case measure => simp [intOf]; omega
                · have a5 : ¬ (r : Int) = (k : Int) := by omega
                  rw [if_neg (fun h => a1 h.1)] at hcell
                  go_wp2
                  go_round
                  case rel => exact ⟨j + 1, by simp, by omega⟩
                  case measure => simp [intOf]; omega
              · go_wp2
                go_ret
                exact ⟨rfl, HWB.out.trans (HK8.out.below (fun k hk => by omega))⟩
  · have G := HG.out (w2.heap.size + 1) w2.heap.size (.inr ⟨rfl, rfl⟩)
    have x9 : w.heap.size + 1 ≤ w2.heap.size + 1 := by omega
    have y9 : w.heap.size + 1 ≤ w2.heap.size := by omega
    clear HG hmk HD2 HB2 hs1 hs2 HB1
    generalize ((w2.alloc (.cells (madeCells #[.int .u8 0] 128) 5)).alloc (.cells (madeCells #[.int .u8 0] 128) 5)).drew = W3 at G ⊢
    generalize w2.heap.size + 1 = X at G x9 ⊢
    generalize w2.heap.size = Y at G y9 ⊢
    have hXY : X ≠ Y := G.1
    have HX0 : Hid (W3.heap[X]? = some (.cells (fillA p 0) 5 (0, 0))) := G.2.1
    have HY0 : Hid (W3.heap[Y]? = some (.cells (fillA q 0) 5 (0, 0))) := G.2.2.1
    have HDK0 : Hid ((∃ wv, IsDisk (fun k => k < w.heap.size + 1 ∨ k = X ∨ k = Y) W3 { L with wv := wv } (freshSt 4)) ∧ Kept (fun k => k < w.heap.size + 1) Wb W3) := G.2.2.2
    clear G
    go_wp2_with fail
    go_loopw [12] (fun i wr => ∃ j : Nat, i = .int .i64 j ∧ j ≤ 128 ∧ wr.heap[X]? = some (.cells (fillA p j) 5 (0, 0)) ∧ wr.heap[Y]? = some (.cells (fillA q j) 5 (0, 0)) ∧ (∃ wv, IsDisk (fun k => k < w.heap.size + 1 ∨ k = X ∨ k = Y) wr { L with wv := wv } (freshSt 4)) ∧ Kept (fun k => k < w.heap.size + 1) Wb wr) (fun i _ => 128 - (intOf i).toNat)
    case atStart => exact ⟨0, rfl, by omega, HX0.out, HY0.out, HDK0.out⟩
    case round =>
      obtain ⟨j, rfl, hj, hX, hY, ⟨wv, hD⟩, hkp⟩ := hrel
      have HD : Hid (IsDisk (fun k => k < w.heap.size + 1 ∨ k = X ∨ k = Y) wr { L with wv := wv } (freshSt 4)) := hD
      have HKP : Hid (Kept (fun k => k < w.heap.size + 1) Wb wr) := hkp
      have hbw : wr.heap[w.heap.size]? = some (.cells #[.int .u8 (p : Nat), .int .u8 (q : Nat)] 48 (0, 0)) := (hkp.block w.heap.size (by omega)).trans HBX.out
      by_cases hlt : j < 128
      · have hXl := (Array.getElem?_eq_some_iff.1 hX).1
        have hYl := (Array.getElem?_eq_some_iff.1 hY).1
        have nX : X ≠ w.heap.size := by omega
        have nY : Y ≠ w.heap.size := by omega
        have b0 : wr.cell? ⟨w.heap.size, 0, none⟩ = some (.int .u8 (p : Nat)) := by rw [cell_of_row _ _ _ _ _ _ hbw]; rfl
        have b1 : wr.cell? ⟨w.heap.size, 1, none⟩ = some (.int .u8 (q : Nat)) := by rw [cell_of_row _ _ _ _ _ _ hbw]; rfl
        have cX : ∃ u, wr.cell? ⟨X, j, none⟩ = some u := by rw [cell_of_row _ _ _ _ _ _ hX, fillA_get p j j hlt hj]; exact ⟨_, rfl⟩
        have cY : ∃ u, wr.cell? ⟨Y, j, none⟩ = some u := by rw [cell_of_row _ _ _ _ _ _ hY, fillA_get q j j hlt hj]; exact ⟨_, rfl⟩
        obtain ⟨uX, cX⟩ := cX
        obtain ⟨uY, cY⟩ := cY
        have fX : wr.frozen? ⟨X, j, none⟩ = false := by unfold World.frozen?; simp only [hX]; simp
        have fY : wr.frozen? ⟨Y, j, none⟩ = false := by unfold World.frozen?; simp only [hY]; simp
        have cY2 : (wr.setCell ⟨X, j, none⟩ (.int .u8 (p : Nat))).cell? ⟨Y, j, none⟩ = some uY := by rw [cell_other _ _ _ _ (show Y ≠ X from hXY.symm)]; exact cY
        have fY2 : (wr.setCell ⟨X, j, none⟩ (.int .u8 (p : Nat))).frozen? ⟨Y, j, none⟩ = false := by rw [World.frozen?_setCell]; exact fY
        have HS0 : Hid (wr.cell? ⟨w.heap.size, 0, none⟩ = some (.int .u8 (p : Nat)) ∧ wr.cell? ⟨w.heap.size, 1, none⟩ = some (.int .u8 (q : Nat))) := ⟨b0, b1⟩
        have HS1 : Hid ((wr.setCell ⟨X, j, none⟩ (.int .u8 (p : Nat))).cell? ⟨w.heap.size, 0, none⟩ = some (.int .u8 (p : Nat)) ∧ (wr.setCell ⟨X, j, none⟩ (.int .u8 (p : Nat))).cell? ⟨w.heap.size, 1, none⟩ = some (.int .u8 (q : Nat))) := ⟨(cell_other _ _ _ _ nX.symm).trans b0, (cell_other _ _ _ _ nX.symm).trans b1⟩
        have HS2 : Hid (((wr.setCell ⟨X, j, none⟩ (.int .u8 (p : Nat))).setCell ⟨Y, j, none⟩ (.int .u8 (q : Nat))).cell? ⟨w.heap.size, 0, none⟩ = some (.int .u8 (p : Nat)) ∧ ((wr.setCell ⟨X, j, none⟩ (.int .u8 (p : Nat))).setCell ⟨Y, j, none⟩ (.int .u8 (q : Nat))).cell? ⟨w.heap.size, 1, none⟩ = some (.int .u8 (q : Nat))) := ⟨(cell_other _ _ _ _ nY.symm).trans HS1.out.1, (cell_other _ _ _ _ nY.symm).trans HS1.out.2⟩
        have HF : Hid (((wr.setCell ⟨X, j, none⟩ (.int .u8 (p : Nat))).setCell ⟨Y, j, none⟩ (.int .u8 (q : Nat))).heap[X]? = some (.cells (fillA p (j + 1)) 5 (0, 0)) ∧ ((wr.setCell ⟨X, j, none⟩ (.int .u8 (p : Nat))).setCell ⟨Y, j, none⟩ (.int .u8 (q : Nat))).heap[Y]? = some (.cells (fillA q (j + 1)) 5 (0, 0)) ∧ (∃ wv, IsDisk (fun k => k < w.heap.size + 1 ∨ k = X ∨ k = Y) ((wr.setCell ⟨X, j, none⟩ (.int .u8 (p : Nat))).setCell ⟨Y, j, none⟩ (.int .u8 (q : Nat))) { L with wv := wv } (freshSt 4)) ∧ Kept (fun k => k < w.heap.size + 1) Wb ((wr.setCell ⟨X, j, none⟩ (.int .u8 (p : Nat))).setCell ⟨Y, j, none⟩ (.int .u8 (q : Nat)))) := by
          have r1 := heap_set_row hX j (.int .u8 (p : Nat))
          rw [fillA_succ p j hlt] at r1
          have r2 := heap_set_row ((Below.heap_setCell wr ⟨X, j, none⟩ (.int .u8 (p : Nat)) Y hXY.symm).trans hY) j (.int .u8 (q : Nat))
          rw [fillA_succ q j hlt] at r2
          refine ⟨(Below.heap_setCell _ ⟨Y, j, none⟩ _ X hXY).trans r1, r2, ⟨wv, (HD.out.beside (p := ⟨X, j, none⟩) (.inr (.inl rfl)) _).beside (p := ⟨Y, j, none⟩) (.inr (.inr rfl)) _⟩, ?_⟩
          have n1 : ¬ X < w.heap.size + 1 := by omega
          have n2 : ¬ Y < w.heap.size + 1 := by omega
          exact (HKP.out.setCell (p := ⟨X, j, none⟩) n1 _).setCell (p := ⟨Y, j, none⟩) n2 _
        have i1 : (0 : Int) ≤ (j : Int) := by omega
        have i2 : (j : Int) < 128 := by omega
        clear hX hY hD hkp hbw
        go_wp2_with fail
        go_region_held3 (fun w' : World => w'.cell? ⟨w.heap.size, 0, none⟩ = some (.int .u8 (p : Nat)) ∧ w'.cell? ⟨w.heap.size, 1, none⟩ = some (.int .u8 (q : Nat))) (first | exact HS0.out | exact HS1.out | exact HS2.out) (fail)
        go_wp2
        go_roundw
        case rel => exact ⟨j + 1, by simp, by omega, HF.out.1, HF.out.2.1, by obtain ⟨wv9, h9⟩ := HF.out.2.2.1; exact ⟨wv9, h9.drew⟩, HF.out.2.2.2.drew⟩
        case measure => simp [intOf]; omega
      · have e128 : j = 128 := by omega
        rw [e128, fillA_full p hp] at hX
        rw [e128, fillA_full q hq] at hY
        clear e128
        have HX : Hid (wr.heap[X]? = some (.cells (secC p hp).cells.toArray 5 (0, 0)) ∧ wr.heap[Y]? = some (.cells (secC q hq).cells.toArray 5 (0, 0))) := ⟨hX, hY⟩
        clear hX hY hD hkp hbw
        go_wp2_with fail
        go_loopw [13] (fun i wr => ∃ j : Nat, i = .int .i64 j ∧ j ≤ 4 ∧ (wr.heap[X]? = some (.cells (secC p hp).cells.toArray 5 (0, 0)) ∧ wr.heap[Y]? = some (.cells (secC q hq).cells.toArray 5 (0, 0))) ∧ (∃ wv, IsDisk (fun k => k < w.heap.size + 1 ∨ k = X ∨ k = Y) wr { L with wv := wv } (oldSt (secC p hp) j)) ∧ Kept (fun k => k < w.heap.size + 1) Wb wr) (fun i _ => 4 - (intOf i).toNat)
        case atStart => exact ⟨0, rfl, by omega, HX.out, ⟨wv, HD.out⟩, HKP.out⟩
        case round =>
          clear HX HD HKP wv
          obtain ⟨j, rfl, hj, hXY2, ⟨wv, hD⟩, hkp⟩ := hrel
          have HX : Hid (wr.heap[X]? = some (.cells (secC p hp).cells.toArray 5 (0, 0)) ∧ wr.heap[Y]? = some (.cells (secC q hq).cells.toArray 5 (0, 0))) := hXY2
          have HD : Hid (IsDisk (fun k => k < w.heap.size + 1 ∨ k = X ∨ k = Y) wr { L with wv := wv } (oldSt (secC p hp) j)) := hD
          have HKP : Hid (Kept (fun k => k < w.heap.size + 1) Wb wr) := hkp
          clear hXY2 hD hkp
          by_cases hlt : j < 4
          · go_wp2_with fail
            refine (write_one HD.out j (secC p hp) X 128 (octs_of_block HX.out.1) (.inr (.inl rfl)) hlt (by show (-1 : Int) ≠ 0; decide) (by show ((List.range j).map _).length < _; simp; omega) (by show j < _; omega)).mono ?_
            rintro e w6 ⟨rfl, ⟨wv6, hD6⟩, hk6⟩
            rw [old_succ] at hD6
            have HF : Hid ((w6.heap[X]? = some (.cells (secC p hp).cells.toArray 5 (0, 0)) ∧ w6.heap[Y]? = some (.cells (secC q hq).cells.toArray 5 (0, 0))) ∧ (∃ wv, IsDisk (fun k => k < w.heap.size + 1 ∨ k = X ∨ k = Y) w6 { L with wv := wv } (oldSt (secC p hp) (j + 1))) ∧ Kept (fun k => k < w.heap.size + 1) Wb w6) :=
              ⟨⟨(hk6.block X (.inr (.inl rfl))).trans HX.out.1, (hk6.block Y (.inr (.inr rfl))).trans HX.out.2⟩, ⟨wv6, hD6⟩, HKP.out.trans (hk6.mono (fun k hk => .inl hk))⟩
            clear hD6 hk6
            go_wp2
            go_roundw
            case rel => exact ⟨j + 1, by simp, by omega, HF.out⟩
            case measure => simp [intOf]; omega
          · have e4 : j = 4 := by omega
            rw [e4] at HD
            clear e4
            go_wp2_with fail
            refine (flush_ok HD.out (by show (-1 : Int) ≠ 0; decide)).mono ?_
            rintro e w5 ⟨rfl, hD5, hk5⟩
            have HD5 : Hid (IsDisk (fun k => k < w.heap.size + 1 ∨ k = X ∨ k = Y) w5 { L with wv := .slice none 0 0 } (oldSt (secC p hp) 4).spent.flushed) := hD5
            have HY5 : Hid (w5.heap[Y]? = some (.cells (secC q hq).cells.toArray 5 (0, 0))) := (hk5.block Y (.inr (.inr rfl))).trans HX.out.2
            have HK5 : Hid (Kept (fun k => k < w.heap.size + 1) Wb w5) := HKP.out.trans (hk5.mono (fun k hk => .inl hk))
            clear hD5 hk5
            go_wp2_with fail
            refine (write_one HD5.out k (secC q hq) Y 128 (octs_of_block HY5.out) (.inr (.inr rfl)) hk4 (by show (-1 : Int) ≠ 0; decide) (by show 0 < _; decide) (by show 4 < _; decide)).mono ?_
            rintro e w6 ⟨rfl, ⟨wv6, hD6⟩, hk6⟩
            have HD6 : Hid (IsDisk (fun k => k < w.heap.size + 1 ∨ k = X ∨ k = Y) w6 { L with wv := wv6 } ((oldSt (secC p hp) 4).spent.flushed.wait k (secC q hq))) := hD6
            have HK6 : Hid (Kept (fun k => k < w.heap.size + 1) Wb w6) := HK5.out.trans (hk6.mono (fun k hk => .inl hk))
            clear hD6 hk6
            go_wp2_with fail
            refine (crash_v HD6.out _ [] (Ints.nil _) 0 cut).mono ?_
            rintro e w7 ⟨rfl, hD7, hk7⟩
            rw [show keptTo [] ((oldSt (secC p hp) 4).spent.flushed.wait k (secC q hq)).waits.length = 0 from rfl]
            have HD7 : Hid (IsDisk (fun k => k < w.heap.size + 1 ∨ k = X ∨ k = Y) w7 { L with wv := .slice none 0 0 } (tornSt (secC p hp) (secC q hq) k cut)) := hD7
            have HK7 : Hid (Kept (fun k => k < w.heap.size + 1) Wb w7) := HK6.out.trans (hk7.mono (fun k hk => .inl hk))
            clear hD7 hk7
            go_wp2_with fail
            refine (image_v HD7.out).mono ?_
            rintro e w8 ⟨v, rfl, ho, hb8⟩
            have hol : (secsN (tornSt (secC p hp) (secC q hq) k cut).see 0 (tornSt (secC p hp) (secC q hq) k cut).n).length = 512 := secsN_length _ _ _
            obtain ⟨x, cap, rfl⟩ := ho.shape
            rw [hol] at ho ⊢
            obtain ⟨g, off, rfl, hgl, hoc⟩ := ho.addr (by decide)
            have HOC : Hid (∀ r t, r < 4 → t < 128 → w8.cell? ⟨g, off + (128 * r + t), none⟩ = some (.int .u8 ((if r = k ∧ 1 ≤ cut ∧ cut ≤ 127 ∧ (t : Int) < cut then q else p : Nat) : Int))) := by
              intro r t hr ht
              rw [hoc (128 * r + t) (by rw [hol]; omega)]
              have := torn_at p q hp hq k cut r t hr ht
              rw [show (tornSt (secC p hp) (secC q hq) k cut).n = 4 from rfl, this]
              rfl
            have HK8 : Hid (Kept (fun k => k < w.heap.size + 1) Wb w8) := HK7.out.trans (Kept.ofBelow hb8 (fun k hk => HD7.out.kl k (.inl hk)))
            have hbw : w8.heap[w.heap.size]? = some (.cells #[.int .u8 (p : Nat), .int .u8 (q : Nat)] 48 (0, 0)) := (HK8.out.block w.heap.size (by omega)).trans HBX.out
            have b0 : w8.cell? ⟨w.heap.size, 0, none⟩ = some (.int .u8 (p : Nat)) := by rw [cell_of_row _ _ _ _ _ _ hbw]; rfl
            have b1 : w8.cell? ⟨w.heap.size, 1, none⟩ = some (.int .u8 (q : Nat)) := by rw [cell_of_row _ _ _ _ _ _ hbw]; rfl
            clear ho hoc hb8 hol hbw
            go_wp2_with fail
            go_loop [16] (fun i => ∃ j : Nat, i = .int .i64 j ∧ j ≤ 512) (fun i => 512 - (intOf i).toNat)
            case atStart => exact ⟨0, rfl, by omega⟩
            case round =>
              obtain ⟨j, rfl, hj⟩ := hrel
              by_cases hlt : j < 512
              · obtain ⟨r, t, hjr, ht⟩ : ∃ r t, j = 128 * r + t ∧ t < 128 := ⟨j / 128, j % 128, by omega, by omega⟩
                have hr : r < 4 := by omega
                have hcell := HOC.out r t hr ht
                rw [← hjr] at hcell
                have e1 : (j : Int) / 128 = (r : Int) := by omega
                have e2 : (j : Int) % 128 = (t : Int) := by omega
                have e3 : (j : Int).tmod 128 = (t : Int) := by rw [Int.tmod_eq_emod_of_nonneg (by omega)]; exact e2
                have e4 : (j : Int).tdiv 128 = (r : Int) := by rw [Int.tdiv_eq_ediv_of_nonneg (by omega)]; exact e1
                clear hjr
                by_cases a1 : r = k
                · subst a1
                  by_cases a2 : 1 ≤ cut
                  · by_cases a3 : cut ≤ 127
                    · by_cases a4 : (t : Int) < cut
                      · rw [if_pos ⟨rfl, a2, a3, a4⟩] at hcell
                        go_wp2
                        go_round
                        case rel => exact ⟨j + 1, by simp, by omega⟩
                        case measure => simp [intOf]; omega
                      · rw [if_neg (fun h => a4 h.2.2.2)] at hcell
                        go_wp2
                        go_round
                        case rel => exact ⟨j + 1, by simp, by omega⟩
                        case measure => simp [intOf]; omega
                    · rw [if_neg (fun h => a3 h.2.2.1)] at hcell
                      go_wp2
                      go_round
                      case rel => exact ⟨j + 1, by simp, by omega⟩
                      case measure => simp [intOf]; omega
                  · rw [if_neg (fun h => a2 h.2.1)] at hcell
                    go_wp2
                    go_round
                    case rel => exact ⟨j + 1, by simp, by omega⟩
                    case measure => simp [intOf]; omega
                · have a5 : ¬ (r : Int) = (k : Int) := by omega
                  rw [if_neg (fun h => a1 h.1)] at hcell
                  go_wp2
                  go_round
                  case rel => exact ⟨j + 1, by simp, by omega⟩
                  case measure => simp [intOf]; omega
              · go_wp2
                go_ret
                exact ⟨rfl, HWB.out.trans (HK8.out.below (fun k hk => by omega))⟩

theorem diskTorn_walk (c cut : Int) (z : List Int) (w : World) (f0 : (Lit.int .i64 c).wf = true) (f1 : (Lit.int .i64 cut).wf = true) (g : z.length = 2) (f2 : ∀ x ∈ z, (Lit.int .u8 x).wf = true) :
    Calls Try.prog 6 #[.int .i64 c, .int .i64 cut, .agg (z.map (Value.int .u8)).toArray] w fun e w' => e = .returned (.bool true) ∧ Below w.heap.size w w' := by
  have hz : ∀ x ∈ z, 0 ≤ x ∧ x ≤ 255 := fun x hx => by
    have := f2 x hx
    simpa [Lit.wf, IntKind.min, IntKind.max, IntKind.signed, IntKind.bits] using this
  have hc : -9223372036854775808 ≤ c ∧ c ≤ 9223372036854775807 := by simpa [Lit.wf, IntKind.min, IntKind.max, IntKind.signed, IntKind.bits] using f0
  match z, g, hz with
  | [x, y], _, hz =>
    have hx := hz x (by simp)
    have hy := hz y (by simp)
    obtain ⟨p, rfl⟩ := Int.eq_ofNat_of_zero_le hx.1
    obtain ⟨q, rfl⟩ := Int.eq_ofNat_of_zero_le hy.1
    exact torn_main c cut p q (by omega) (by omega) w hc.1 hc.2
end Go.Proofs.Ytjjodmppneonjaa
