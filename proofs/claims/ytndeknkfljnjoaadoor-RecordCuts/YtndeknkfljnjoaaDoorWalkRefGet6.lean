/- The document's Get of a part: its contract. (Written by wip/mk_get6.py.) -/
import Derived.Test.YtndeknkfljnjoaaDoorWalkRefPut6b
namespace Go.Proofs.YtndeknkfljnjoaaDoor
open Go.RowKit
set_option linter.unusedVariables false

theorem strN_at6 (zs : List Nat) (k z : Nat) (hz : zs[k]?.getD 0 = z) (hz8 : z < 256) (hk : k < zs.length) : ∀ h : k < (strN zs).size, ((strN zs)[k]'h).toNat = z := by
  intro h
  rw [List.getElem?_eq_getElem hk] at hz
  have hz' : zs[k] = z := by simpa using hz
  have e : (strN zs)[k]'h = UInt8.ofNat zs[k] := by
    simp [strN, strOfNums, ByteArray.getElem_eq_getElem_data]
  rw [e, hz']
  simp
  omega
/-- A part's five cells in a block. -/
def PA (w : World) (b : Nat) (f : Bool) (e n i : Int) (v : Value) : Prop := w.heap[b]? = some (.cells #[.bool f, .int .i64 e, .int .i64 n, .int .i64 i, v] 24 (0, 0))
theorem PA.cells {w : World} {b : Nat} {f : Bool} {e n i : Int} {v : Value} (h : PA w b f e n i v) : w.cell? ⟨b, 0, none⟩ = some (.bool f) ∧ w.cell? ⟨b, 1, none⟩ = some (.int .i64 e) ∧ w.cell? ⟨b, 2, none⟩ = some (.int .i64 n) ∧ w.cell? ⟨b, 3, none⟩ = some (.int .i64 i) ∧ w.cell? ⟨b, 4, none⟩ = some v := by
  refine ⟨?_, ?_, ?_, ?_, ?_⟩ <;> (rw [cell_of_row _ _ _ _ _ _ h]; rfl)
theorem PA.lt {w : World} {b : Nat} {f : Bool} {e n i : Int} {v : Value} (h : PA w b f e n i v) : b < w.heap.size := lt_of_heap h
theorem PA.same {w w' : World} {b B : Nat} {f : Bool} {e n i : Int} {v : Value} (h : PA w b f e n i v) (hb : Below B w w') (hB : b < B) : PA w' b f e n i v := (hb.block b hB).trans h
theorem PA.frozen {w : World} {b : Nat} {f : Bool} {e n i : Int} {v : Value} (h : PA w b f e n i v) (k : Nat) : w.frozen? ⟨b, k, none⟩ = false := by
  have h' : w.heap[b]? = _ := h
  simp [World.frozen?, h']
theorem PA.other {w : World} {b c : Nat} {f : Bool} {e n i : Int} {v : Value} (h : PA w b f e n i v) (k : Nat) (u : Value) (hn : b ≠ c) : PA (w.setCell ⟨c, k, none⟩ u) b f e n i v := (Below.heap_setCell _ _ _ _ hn).trans h
theorem PA.set1 {w : World} {b : Nat} {f : Bool} {e n i : Int} {v : Value} (h : PA w b f e n i v) (x : Int) : PA (w.setCell ⟨b, 1, none⟩ (.int .i64 x)) b f x n i v := (heap_set_row h 1 _).trans rfl
theorem PA.set2 {w : World} {b : Nat} {f : Bool} {e n i : Int} {v : Value} (h : PA w b f e n i v) (x : Int) : PA (w.setCell ⟨b, 2, none⟩ (.int .i64 x)) b f e x i v := (heap_set_row h 2 _).trans rfl
theorem PA.set3 {w : World} {b : Nat} {f : Bool} {e n i : Int} {v : Value} (h : PA w b f e n i v) (x : Int) : PA (w.setCell ⟨b, 3, none⟩ (.int .i64 x)) b f e n x v := (heap_set_row h 3 _).trans rfl
theorem PA.set4 {w : World} {b : Nat} {f : Bool} {e n i : Int} {v : Value} (h : PA w b f e n i v) (x : Value) : PA (w.setCell ⟨b, 4, none⟩ x) b f e n i x := (heap_set_row h 4 _).trans rfl
theorem Tryd.sizeP6 : (Tryd.prog.info? 24).map (·.size) = some 5 := by kernel_rfl
theorem PA.there {w : World} {b : Nat} {f : Bool} {e n i : Int} {v : Value} (h : PA w b f e n i v) : w.there b 0 5 := there_row' (C := [.bool f, .int .i64 e, .int .i64 n, .int .i64 i, v]) h rfl
theorem pa_loadSet {w : World} {b : Nat} {f0 : Bool} {e0 n0 i0 : Int} {v0 : Value} (h : PA w b f0 e0 n0 i0 v0) (f : Bool) (e n i : Int) (v : Value) : (loadVar 24 ⟨b, 0, none⟩).run Tryd.prog (w.setCells b 0 [.bool f, .int .i64 e, .int .i64 n, .int .i64 i, v]) = .ok (.agg #[.bool f, .int .i64 e, .int .i64 n, .int .i64 i, v]) (w.setCells b 0 [.bool f, .int .i64 e, .int .i64 n, .int .i64 i, v]) :=
  run_loadVar_mid (P := Tryd.prog) _ b 0 24 [.bool f, .int .i64 e, .int .i64 n, .int .i64 i, v] _ (World.rangeAt_setCells_same w b 0 _ h.there) Tryd.underlying24 rfl Tryd.sizeP6
theorem pa_one (f : Bool) (e n i : Int) (a : Option Addr) (l c : Nat) : (#[.bool f, .int .i64 e, .int .i64 n, .int .i64 i, .slice a l c] : Array Value).all (·.oneCell') = true := all_oneCell_toArray (by intro u hu; simp at hu; rcases hu with rfl | rfl | rfl | rfl | rfl <;> rfl)
/-- Octets in a block that is as it was. -/
theorem octs_block {w w' : World} {b off n cap : Nat} {zs : List Nat} (h : Octs w (.slice (some ⟨b, off, none⟩) n cap) zs) (hb : w'.heap[b]? = w.heap[b]?) : Octs w' (.slice (some ⟨b, off, none⟩) n cap) zs := by
  obtain ⟨h1, h2, ad, c, e, h3, h4, h5⟩ := h
  refine ⟨h1, h2, ad, c, e, h3, h4, ?_⟩
  rcases h5 with h5 | ⟨a, ea, h5⟩
  · exact .inl h5
  · refine .inr ⟨a, ea, ?_⟩
    rcases h5 with h5 | ⟨b', off', eb, hlt, hc⟩
    · exact .inl h5
    · subst ea
      simp only [Value.slice.injEq, Option.some.injEq] at e
      obtain ⟨e1, _, _⟩ := e
      rw [eb] at e1
      simp only [Addr.mk.injEq] at e1
      obtain ⟨rfl, rfl, _⟩ := e1
      refine .inr ⟨_, _, eb, ?_, fun j hj => ?_⟩
      · have h6 : w.heap[b]? = some w.heap[b] := Array.getElem?_eq_getElem hlt
        rw [h6] at hb
        exact (Array.getElem?_eq_some_iff.1 hb).1
      · rw [← hc j hj]
        simp [World.cell?, hb]
theorem heap_setCells_ne {w : World} {b k : Nat} (o : Nat) (vs : List Value) (hn : k ≠ b) : (w.setCells b o vs).heap[k]? = w.heap[k]? := ((Kept.refl (fun j => j = k) w).setCells (b := b) (fun e => hn e.symm) o vs).block k rfl
def gotV (o : Option Part) (v : Value) : Value := .tuple #[pval (o.getD Part.zero) v, .bool o.isSome]
theorem octs_nil (w : World) : Octs w (.slice none 0 0) [] := ⟨fun z h => (by cases h), (by simp), none, 0, rfl, Nat.le_refl _, (by simp), .inl ⟨rfl, rfl⟩⟩

set_option maxHeartbeats 1000000 in
set_option maxRecDepth 20000 in
theorem refGet6_true (zs : List Nat) (hz : ∀ z ∈ zs, z < 256) (hn : zs.length = 128) (h11 : zs[11]?.getD 0 ≤ 112) (h70 : zs[0]?.getD 0 = 70) (w : World) : Calls Tryd.prog 10 #[.string (strN zs)] w fun e w' => ∃ v, e = .returned (gotV (getP zs) v) ∧ Octs w' v ((getP zs).getD Part.zero).data ∧ (getP zs = none → v = .slice none 0 0) ∧ Below w.heap.size w w' := by
  have hsz := strN_size zs
  rw [hn] at hsz
  have HTB : Hid (getB zs = (okP (readP zs) && decide (sect6 (readP zs) = zs))) := by unfold Hid getB; rw [decide_eq_true hn, decide_eq_true h11]; simp
  have HTO : Hid (getP zs = if getB zs = true then some (readP zs) else none) := rfl
  have heq : Hid (((strN (sect6 (readP zs))).toList == (strN zs).toList) = decide (sect6 (readP zs) = zs)) := str_eqv _ _ (sect6_small _ (readP_small hz)) hz
  have hft : (readP zs).foot = true := by exact decide_eq_true h70
  obtain ⟨x, hx⟩ : ∃ x, zs[11]?.getD 0 = x := ⟨_, rfl⟩
  obtain ⟨y, hy⟩ : ∃ y, zs[0]?.getD 0 = y := ⟨_, rfl⟩
  rw [hx] at h11
  rw [hy] at h70
  have hx8 : x < 256 := by omega
  have hy8 : y < 256 := by
    rw [← hy, List.getElem?_eq_getElem (show 0 < zs.length by omega)]
    exact hz _ (List.getElem_mem _)
  have hi11 := strN_at6 zs 11 x hx hx8 (by omega)
  have hi0 := strN_at6 zs 0 y hy hy8 (by omega)
  have hx1 := strN_cut zs 1 5
  have hx2 := strN_cut zs 5 9
  have hx3 := strN_cut zs 9 11
  have hx4 := strN_cut zs 12 (12 + x)
  have HE1 : Hid (getO ((zs.drop 1).take (5 - 1)) = (readP zs).epoch) := rfl
  have HE2 : Hid (getO ((zs.drop 5).take (9 - 5)) = (readP zs).number) := rfl
  have HE3 : Hid (getO ((zs.drop 9).take (11 - 9)) = (readP zs).index) := rfl
  have HD : Hid ((zs.drop 12).take (12 + x - 12) = (readP zs).data) := by unfold Hid readP; rw [hx, Nat.add_sub_cancel_left]
  have HL1 : Hid (((zs.drop 1).take (5 - 1)).length = 4) := by unfold Hid; rw [List.length_take, List.length_drop, hn]; decide
  have HL2 : Hid (((zs.drop 5).take (9 - 5)).length = 4) := by unfold Hid; rw [List.length_take, List.length_drop, hn]; decide
  have HL3 : Hid (((zs.drop 9).take (11 - 9)).length = 2) := by unfold Hid; rw [List.length_take, List.length_drop, hn]; decide
  have HL4 : Hid ((readP zs).data.length = x) := by unfold Hid; rw [← HD.out, List.length_take, List.length_drop, hn]; omega
  have HS1 : Hid (∀ z ∈ (zs.drop 1).take (5 - 1), z < 256) := small_part hz _ _
  have HS2 : Hid (∀ z ∈ (zs.drop 5).take (9 - 5), z < 256) := small_part hz _ _
  have HS3 : Hid (∀ z ∈ (zs.drop 9).take (11 - 9), z < 256) := small_part hz _ _
  have HS4 : Hid (∀ z ∈ (readP zs).data, z < 256) := readP_small hz
  rw [HD.out] at hx4
  generalize readP zs = r at *
  generalize (zs.drop 1).take (5 - 1) = P1 at *
  generalize (zs.drop 5).take (9 - 5) = P2 at *
  generalize (zs.drop 9).take (11 - 9) = P3 at *
  have HK1 : Hid (∀ (W : World) (m : Nat), W.heap.size = m → Octs (Lib.bytesWorld W 5 (strN P1)) (.slice (some ⟨m, 0, none⟩) 4 (grownCap W 4 0 5)) P1 ∧ Below W.heap.size W (Lib.bytesWorld W 5 (strN P1))) := fun W m hm => (back_at P1 4 HL1.out HS1.out (by decide) W m hm).2
  have hc1 : ∀ W : World, (convert 9 22 (.string (strN P1))).run Tryd.prog W = .ok (.slice (some ⟨W.heap.size, 0, none⟩) 4 (grownCap W 4 0 5)) (Lib.bytesWorld W 5 (strN P1)) := fun W => (back_at P1 4 HL1.out HS1.out (by decide) W _ rfl).1
  have HK2 : Hid (∀ (W : World) (m : Nat), W.heap.size = m → Octs (Lib.bytesWorld W 5 (strN P2)) (.slice (some ⟨m, 0, none⟩) 4 (grownCap W 4 0 5)) P2 ∧ Below W.heap.size W (Lib.bytesWorld W 5 (strN P2))) := fun W m hm => (back_at P2 4 HL2.out HS2.out (by decide) W m hm).2
  have hc2 : ∀ W : World, (convert 9 22 (.string (strN P2))).run Tryd.prog W = .ok (.slice (some ⟨W.heap.size, 0, none⟩) 4 (grownCap W 4 0 5)) (Lib.bytesWorld W 5 (strN P2)) := fun W => (back_at P2 4 HL2.out HS2.out (by decide) W _ rfl).1
  have HK3 : Hid (∀ (W : World) (m : Nat), W.heap.size = m → Octs (Lib.bytesWorld W 5 (strN P3)) (.slice (some ⟨m, 0, none⟩) 2 (grownCap W 2 0 5)) P3 ∧ Below W.heap.size W (Lib.bytesWorld W 5 (strN P3))) := fun W m hm => (back_at P3 2 HL3.out HS3.out (by decide) W m hm).2
  have hc3 : ∀ W : World, (convert 9 22 (.string (strN P3))).run Tryd.prog W = .ok (.slice (some ⟨W.heap.size, 0, none⟩) 2 (grownCap W 2 0 5)) (Lib.bytesWorld W 5 (strN P3)) := fun W => (back_at P3 2 HL3.out HS3.out (by decide) W _ rfl).1
  have HK4 : Hid (∀ (W : World) (m : Nat), W.heap.size = m → Octs (Lib.bytesWorld W 5 (strN r.data)) (.slice (some ⟨m, 0, none⟩) x (grownCap W x 0 5)) r.data ∧ Below W.heap.size W (Lib.bytesWorld W 5 (strN r.data))) := fun W m hm => (back_at r.data x HL4.out HS4.out (by omega) W m hm).2
  have hc4 : ∀ W : World, (convert 9 22 (.string (strN r.data))).run Tryd.prog W = .ok (.slice (some ⟨W.heap.size, 0, none⟩) x (grownCap W x 0 5)) (Lib.bytesWorld W 5 (strN r.data)) := fun W => (back_at r.data x HL4.out HS4.out (by omega) W _ rfl).1
  have FP : Hid (PA ((w.alloc (.cells #[.bool false, .int .i64 0, .int .i64 0, .int .i64 0, .slice none 0 0] 24)).alloc (.cells #[.bool true, .int .i64 0, .int .i64 0, .int .i64 0, .slice none 0 0] 24)) (w.heap.size + 1) true 0 0 0 (.slice none 0 0)) := by
    have := heap_alloc_new (w.alloc (.cells #[.bool false, .int .i64 0, .int .i64 0, .int .i64 0, .slice none 0 0] 24)) (.cells #[.bool true, .int .i64 0, .int .i64 0, .int .i64 0, .slice none 0 0] 24)
    rwa [show (w.alloc (.cells #[.bool false, .int .i64 0, .int .i64 0, .int .i64 0, .slice none 0 0] 24)).heap.size = w.heap.size + 1 by simp] at this
  have FZ : Hid (PA ((w.alloc (.cells #[.bool false, .int .i64 0, .int .i64 0, .int .i64 0, .slice none 0 0] 24)).alloc (.cells #[.bool true, .int .i64 0, .int .i64 0, .int .i64 0, .slice none 0 0] 24)) w.heap.size false 0 0 0 (.slice none 0 0)) := PA.same (B := w.heap.size + 1) (heap_alloc_new w _) ((Below.refl _ _).alloc (by simp) _) (by omega)
  have FB : Hid (Below w.heap.size w ((w.alloc (.cells #[.bool false, .int .i64 0, .int .i64 0, .int .i64 0, .slice none 0 0] 24)).alloc (.cells #[.bool true, .int .i64 0, .int .i64 0, .int .i64 0, .slice none 0 0] 24))) := ((Below.refl _ _).alloc (Nat.le_refl _) _).alloc (by simp) _
  have HZ1 : Hid (((w.alloc (.cells #[.bool false, .int .i64 0, .int .i64 0, .int .i64 0, .slice none 0 0] 24)).alloc (.cells #[.bool true, .int .i64 0, .int .i64 0, .int .i64 0, .slice none 0 0] 24)).heap.size = w.heap.size + 1 + 1) := by simp [Hid]
  have hx112 : ¬ (112 : Int) < (x : Int) := by omega
  have hy70 : (y : Int) = 70 := by omega
  have hyb : ((y : Int) == 70) = true := by simp; omega
  have ux : IntKind.i64.wrap (x : Int) = (x : Int) := by rw [IntKind.wrap_i64]; omega
  have ux2 : IntKind.i64.wrap (12 + (x : Int)) = 12 + (x : Int) := by rw [IntKind.wrap_i64]; omega
  have ux3 : (12 + (x : Int)).toNat = 12 + x := by omega
  have g1 : (0 : Int) ≤ 12 + (x : Int) := by omega
  have g2 : (12 : Int) ≤ 12 + (x : Int) := by omega
  have g3 : 12 + (x : Int) ≤ 128 := by omega
  clear hz hn hx hy HD
  go_enter Tryd.func10, Tryd.ntmps10
  go_wp2_with fail
  generalize ((w.alloc (.cells #[.bool false, .int .i64 0, .int .i64 0, .int .i64 0, .slice none 0 0] 24)).alloc (.cells #[.bool true, .int .i64 0, .int .i64 0, .int .i64 0, .slice none 0 0] 24)) = X1 at *
  refine (refGet_octs5 _ P1 (Lib.bytesWorld X1 5 (strN P1)) (HK1.out _ _ HZ1.out).1).mono ?_
  rintro e w1 ⟨rfl, hb⟩
  rw [HE1.out]
  have hbb := (HK1.out X1 _ rfl).2.trans (hb.mono (HK1.out X1 _ rfl).2.size)
  have FP1 : Hid (PA w1 (w.heap.size + 1) true 0 0 0 (.slice none 0 0)) := FP.out.same hbb FP.out.lt
  have FZ1 : Hid (PA w1 w.heap.size false 0 0 0 (.slice none 0 0)) := FZ.out.same hbb FZ.out.lt
  have FB1 : Hid (Below w.heap.size w w1) := FB.out.trans (hbb.mono FB.out.size)
  clear hb hbb FP FZ FB
  have c1 := FP1.out.cells.2.1
  have f1 := FP1.out.frozen 1
  have FP : Hid (PA (w1.setCell ⟨w.heap.size + 1, 1, none⟩ (.int .i64 r.epoch)) (w.heap.size + 1) true r.epoch 0 0 (.slice none 0 0)) := FP1.out.set1 r.epoch
  have FZ : Hid (PA (w1.setCell ⟨w.heap.size + 1, 1, none⟩ (.int .i64 r.epoch)) w.heap.size false 0 0 0 (.slice none 0 0)) := FZ1.out.other _ _ (by omega)
  have FB : Hid (Below w.heap.size w (w1.setCell ⟨w.heap.size + 1, 1, none⟩ (.int .i64 r.epoch))) := FB1.out.setCell (p := ⟨w.heap.size + 1, 1, none⟩) (by show w.heap.size ≤ w.heap.size + 1; omega) _
  have HZ2 : Hid ((w1.setCell ⟨w.heap.size + 1, 1, none⟩ (.int .i64 r.epoch)).heap.size = w1.heap.size) := by simp [Hid]
  clear FP1 FZ1 FB1
  go_wp2_with fail
  generalize w1.setCell ⟨w.heap.size + 1, 1, none⟩ (.int .i64 r.epoch) = X2 at *
  clear c1 f1 hx1 hc1
  refine (refGet_octs5 _ P2 (Lib.bytesWorld X2 5 (strN P2)) (HK2.out _ _ HZ2.out).1).mono ?_
  rintro e w2 ⟨rfl, hb⟩
  rw [HE2.out]
  have hbb := (HK2.out X2 _ rfl).2.trans (hb.mono (HK2.out X2 _ rfl).2.size)
  have FP2 : Hid (PA w2 (w.heap.size + 1) true r.epoch 0 0 (.slice none 0 0)) := FP.out.same hbb FP.out.lt
  have FZ2 : Hid (PA w2 w.heap.size false 0 0 0 (.slice none 0 0)) := FZ.out.same hbb FZ.out.lt
  have FB2 : Hid (Below w.heap.size w w2) := FB.out.trans (hbb.mono FB.out.size)
  clear hb hbb FP FZ FB
  have c2 := FP2.out.cells.2.2.1
  have f2 := FP2.out.frozen 2
  have FP : Hid (PA (w2.setCell ⟨w.heap.size + 1, 2, none⟩ (.int .i64 r.number)) (w.heap.size + 1) true r.epoch r.number 0 (.slice none 0 0)) := FP2.out.set2 r.number
  have FZ : Hid (PA (w2.setCell ⟨w.heap.size + 1, 2, none⟩ (.int .i64 r.number)) w.heap.size false 0 0 0 (.slice none 0 0)) := FZ2.out.other _ _ (by omega)
  have FB : Hid (Below w.heap.size w (w2.setCell ⟨w.heap.size + 1, 2, none⟩ (.int .i64 r.number))) := FB2.out.setCell (p := ⟨w.heap.size + 1, 2, none⟩) (by show w.heap.size ≤ w.heap.size + 1; omega) _
  have HZ3 : Hid ((w2.setCell ⟨w.heap.size + 1, 2, none⟩ (.int .i64 r.number)).heap.size = w2.heap.size) := by simp [Hid]
  clear FP2 FZ2 FB2
  go_wp2_with fail
  generalize w2.setCell ⟨w.heap.size + 1, 2, none⟩ (.int .i64 r.number) = X3 at *
  clear c2 f2 hx2 hc2
  refine (refGet_octs5 _ P3 (Lib.bytesWorld X3 5 (strN P3)) (HK3.out _ _ HZ3.out).1).mono ?_
  rintro e w3 ⟨rfl, hb⟩
  rw [HE3.out]
  have hbb := (HK3.out X3 _ rfl).2.trans (hb.mono (HK3.out X3 _ rfl).2.size)
  have FP3 : Hid (PA w3 (w.heap.size + 1) true r.epoch r.number 0 (.slice none 0 0)) := FP.out.same hbb FP.out.lt
  have FZ3 : Hid (PA w3 w.heap.size false 0 0 0 (.slice none 0 0)) := FZ.out.same hbb FZ.out.lt
  have FB3 : Hid (Below w.heap.size w w3) := FB.out.trans (hbb.mono FB.out.size)
  clear hb hbb FP FZ FB
  have c3 := FP3.out.cells.2.2.2.1
  have f3 := FP3.out.frozen 3
  have FP : Hid (PA (w3.setCell ⟨w.heap.size + 1, 3, none⟩ (.int .i64 r.index)) (w.heap.size + 1) true r.epoch r.number r.index (.slice none 0 0)) := FP3.out.set3 r.index
  have FZ : Hid (PA (w3.setCell ⟨w.heap.size + 1, 3, none⟩ (.int .i64 r.index)) w.heap.size false 0 0 0 (.slice none 0 0)) := FZ3.out.other _ _ (by omega)
  have FB : Hid (Below w.heap.size w (w3.setCell ⟨w.heap.size + 1, 3, none⟩ (.int .i64 r.index))) := FB3.out.setCell (p := ⟨w.heap.size + 1, 3, none⟩) (by show w.heap.size ≤ w.heap.size + 1; omega) _
  have HZ4 : Hid ((w3.setCell ⟨w.heap.size + 1, 3, none⟩ (.int .i64 r.index)).heap.size = w3.heap.size) := by simp [Hid]
  clear FP3 FZ3 FB3
  have YB := (HK4.out (w3.setCell ⟨w.heap.size + 1, 3, none⟩ (.int .i64 r.index)) w3.heap.size HZ4.out)
  have HG3 : Hid (w.heap.size + 1 < w3.heap.size) := by
    have := FP.out.lt
    rw [HZ4.out] at this
    exact this
  have FPy : Hid (PA (Lib.bytesWorld (w3.setCell ⟨w.heap.size + 1, 3, none⟩ (.int .i64 r.index)) 5 (strN r.data)) (w.heap.size + 1) true r.epoch r.number r.index (.slice none 0 0)) := FP.out.same YB.2 FP.out.lt
  have FZy : Hid (PA (Lib.bytesWorld (w3.setCell ⟨w.heap.size + 1, 3, none⟩ (.int .i64 r.index)) 5 (strN r.data)) w.heap.size false 0 0 0 (.slice none 0 0)) := FZ.out.same YB.2 FZ.out.lt
  have FBy : Hid (Below w.heap.size w (Lib.bytesWorld (w3.setCell ⟨w.heap.size + 1, 3, none⟩ (.int .i64 r.index)) 5 (strN r.data))) := FB.out.trans (YB.2.mono FB.out.size)
  have FOy : Hid (Octs (Lib.bytesWorld (w3.setCell ⟨w.heap.size + 1, 3, none⟩ (.int .i64 r.index)) 5 (strN r.data)) (.slice (some ⟨w3.heap.size, 0, none⟩) x (grownCap (w3.setCell ⟨w.heap.size + 1, 3, none⟩ (.int .i64 r.index)) x 0 5)) r.data) := YB.1
  clear YB FP FZ FB HK1 HK2 HK3 HK4
  obtain ⟨q0, q1, q2, q3, q4⟩ := FPy.out.cells
  have fy := FPy.out.frozen 4
  go_wp2_with fail
  clear q0 q1 q2 q3 q4 fy c3 f3 hx3 hc3 hc4 hx4
  generalize grownCap (w3.setCell ⟨w.heap.size + 1, 3, none⟩ (.int .i64 r.index)) x 0 5 = cp at *
  generalize Lib.bytesWorld (w3.setCell ⟨w.heap.size + 1, 3, none⟩ (.int .i64 r.index)) 5 (strN r.data) = Y at *
  have FP : Hid (PA (Y.setCell ⟨w.heap.size + 1, 4, none⟩ (.slice (some ⟨w3.heap.size, 0, none⟩) x cp)) (w.heap.size + 1) true r.epoch r.number r.index (.slice (some ⟨w3.heap.size, 0, none⟩) x cp)) := FPy.out.set4 _
  have FZ : Hid (PA (Y.setCell ⟨w.heap.size + 1, 4, none⟩ (.slice (some ⟨w3.heap.size, 0, none⟩) x cp)) w.heap.size false 0 0 0 (.slice none 0 0)) := FZy.out.other _ _ (by omega)
  have FB : Hid (Below w.heap.size w (Y.setCell ⟨w.heap.size + 1, 4, none⟩ (.slice (some ⟨w3.heap.size, 0, none⟩) x cp))) := FBy.out.setCell (p := ⟨w.heap.size + 1, 4, none⟩) (by show w.heap.size ≤ w.heap.size + 1; omega) _
  have FO : Hid (Octs (Y.setCell ⟨w.heap.size + 1, 4, none⟩ (.slice (some ⟨w3.heap.size, 0, none⟩) x cp)) (.slice (some ⟨w3.heap.size, 0, none⟩) x cp) r.data) := octs_block FOy.out (Below.heap_setCell _ _ _ _ (show w3.heap.size ≠ w.heap.size + 1 by have := HG3.out; omega))
  clear FPy FZy FBy FOy
  generalize Y.setCell ⟨w.heap.size + 1, 4, none⟩ (.slice (some ⟨w3.heap.size, 0, none⟩) x cp) = V at *
  generalize hvD : (Value.slice (some ⟨w3.heap.size, 0, none⟩) x cp) = vD at *
  have HR := refRight6 r vD V FO.out
  unfold pval at HR
  rw [hft] at HR
  refine HR.mono ?_
  rintro e w8 ⟨rfl, hb8⟩
  have FP8 : Hid (PA w8 (w.heap.size + 1) true r.epoch r.number r.index vD) := FP.out.same hb8 FP.out.lt
  have FZ8 : Hid (PA w8 w.heap.size false 0 0 0 (.slice none 0 0)) := FZ.out.same hb8 FZ.out.lt
  have FB8 : Hid (Below w.heap.size w w8) := FB.out.trans (hb8.mono FB.out.size)
  have FO8 : Hid (Octs w8 vD r.data) := FO.out.kept hb8
  clear hb8 HR FP FZ FB FO
  by_cases hok : okP r = true
  · rw [hok]
    obtain ⟨q0, q1, q2, q3, q4⟩ := FP8.out.cells
    go_wp2_with fail
    clear q0 q1 q2 q3 q4
    have HQ := refPut6 r vD w8 hok FO8.out
    unfold pval at HQ
    rw [hft] at HQ
    refine HQ.mono ?_
    rintro e w9 ⟨rfl, hb9⟩
    have FP9 : Hid (PA w9 (w.heap.size + 1) true r.epoch r.number r.index vD) := FP8.out.same hb9 FP8.out.lt
    have FZ9 : Hid (PA w9 w.heap.size false 0 0 0 (.slice none 0 0)) := FZ8.out.same hb9 FZ8.out.lt
    have FB9 : Hid (Below w.heap.size w w9) := FB8.out.trans (hb9.mono FB8.out.size)
    have FO9 : Hid (Octs w9 vD r.data) := FO8.out.kept hb9
    clear hb9 HQ
    have hq := heq.out
    by_cases hs : sect6 r = zs
    · have hd : decide (sect6 r = zs) = true := decide_eq_true hs
      rw [hd] at hq
      have HV : Hid (getP zs = some r) := by unfold Hid; rw [HTO.out, HTB.out, hok, hd]; rfl
      clear hs hd
      obtain ⟨q0, q1, q2, q3, q4⟩ := FP9.out.cells
      subst hvD
      go_wp2_with ((with_reducible show wpList _ _ _ (Oper.mk _ (Op.store _ _ _) _ _ _ _ :: _) _ _); go_must (refine wpList_store_mid rfl 24 _ _ rfl w.heap.size 0 #[.bool true, .int .i64 r.epoch, .int .i64 r.number, .int .i64 r.index, .slice (some ⟨w3.heap.size, 0, none⟩) x cp] rfl rfl FZ9.out.there Tryd.sizeP6 (pa_one _ _ _ _ _ _ _) ?_))
      go_wp2
      exact bodyPost_ret (v := .tuple #[.agg #[.bool true, .int .i64 r.epoch, .int .i64 r.number, .int .i64 r.index, .slice (some ⟨w3.heap.size, 0, none⟩) x cp], .bool true]) (results_cell2 rfl rfl rfl (pa_loadSet FZ9.out true r.epoch r.number r.index (.slice (some ⟨w3.heap.size, 0, none⟩) x cp))) rfl ⟨_, (by rw [HV.out]; show _ = Ending.returned (.tuple #[.agg #[.bool r.foot, .int .i64 r.epoch, .int .i64 r.number, .int .i64 r.index, .slice (some ⟨w3.heap.size, 0, none⟩) x cp], .bool true]); rw [hft]), (by rw [HV.out]; exact octs_block FO9.out (heap_setCells_ne _ _ (by have := HG3.out; omega))), (fun h => by rw [HV.out] at h; cases h), below_setCells FB9.out (Nat.le_refl _) _ _⟩
    · have hd : decide (sect6 r = zs) = false := decide_eq_false hs
      rw [hd] at hq
      have HV : Hid (getP zs = none) := by unfold Hid; rw [HTO.out, HTB.out, hok, hd]; rfl
      clear hs hd
      go_wp2_with ((with_reducible show wpList _ _ _ (Oper.mk _ (Op.store _ _ _) _ _ _ _ :: _) _ _); go_must (refine wpList_store_mid rfl 24 _ _ rfl w.heap.size 0 #[.bool false, .int .i64 0, .int .i64 0, .int .i64 0, .slice none 0 0] rfl rfl FZ9.out.there Tryd.sizeP6 (pa_one _ _ _ _ _ _ _) ?_))
      go_wp2
      exact bodyPost_ret (v := gotV none (.slice none 0 0)) (results_cell2 rfl rfl rfl (pa_loadSet FZ9.out false 0 0 0 (.slice none 0 0))) rfl ⟨.slice none 0 0, (by rw [HV.out]), (by rw [HV.out]; exact octs_nil _), (fun _ => rfl), below_setCells FB9.out (Nat.le_refl _) _ _⟩

  · have hok' : okP r = false := by simpa using hok
    rw [hok']
    have HV : Hid (getP zs = none) := by unfold Hid; rw [HTO.out, HTB.out, hok']; rfl
    go_wp2_with ((with_reducible show wpList _ _ _ (Oper.mk _ (Op.store _ _ _) _ _ _ _ :: _) _ _); go_must (refine wpList_store_mid rfl 24 _ _ rfl w.heap.size 0 #[.bool false, .int .i64 0, .int .i64 0, .int .i64 0, .slice none 0 0] rfl rfl FZ8.out.there Tryd.sizeP6 (pa_one _ _ _ _ _ _ _) ?_))
    go_wp2
    exact bodyPost_ret (v := gotV none (.slice none 0 0)) (results_cell2 rfl rfl rfl (pa_loadSet FZ8.out false 0 0 0 (.slice none 0 0))) rfl ⟨.slice none 0 0, (by rw [HV.out]), (by rw [HV.out]; exact octs_nil _), (fun _ => rfl), below_setCells FB8.out (Nat.le_refl _) _ _⟩


set_option maxHeartbeats 1000000 in
set_option maxRecDepth 20000 in
theorem refGet6_false (zs : List Nat) (hz : ∀ z ∈ zs, z < 256) (hn : zs.length = 128) (h11 : zs[11]?.getD 0 ≤ 112) (h70 : ¬ zs[0]?.getD 0 = 70) (w : World) : Calls Tryd.prog 10 #[.string (strN zs)] w fun e w' => ∃ v, e = .returned (gotV (getP zs) v) ∧ Octs w' v ((getP zs).getD Part.zero).data ∧ (getP zs = none → v = .slice none 0 0) ∧ Below w.heap.size w w' := by
  have hsz := strN_size zs
  rw [hn] at hsz
  have HTB : Hid (getB zs = (okP (readP zs) && decide (sect6 (readP zs) = zs))) := by unfold Hid getB; rw [decide_eq_true hn, decide_eq_true h11]; simp
  have HTO : Hid (getP zs = if getB zs = true then some (readP zs) else none) := rfl
  have heq : Hid (((strN (sect6 (readP zs))).toList == (strN zs).toList) = decide (sect6 (readP zs) = zs)) := str_eqv _ _ (sect6_small _ (readP_small hz)) hz
  have hft : (readP zs).foot = false := by exact decide_eq_false h70
  obtain ⟨x, hx⟩ : ∃ x, zs[11]?.getD 0 = x := ⟨_, rfl⟩
  obtain ⟨y, hy⟩ : ∃ y, zs[0]?.getD 0 = y := ⟨_, rfl⟩
  rw [hx] at h11
  rw [hy] at h70
  have hx8 : x < 256 := by omega
  have hy8 : y < 256 := by
    rw [← hy, List.getElem?_eq_getElem (show 0 < zs.length by omega)]
    exact hz _ (List.getElem_mem _)
  have hi11 := strN_at6 zs 11 x hx hx8 (by omega)
  have hi0 := strN_at6 zs 0 y hy hy8 (by omega)
  have hx1 := strN_cut zs 1 5
  have hx2 := strN_cut zs 5 9
  have hx3 := strN_cut zs 9 11
  have hx4 := strN_cut zs 12 (12 + x)
  have HE1 : Hid (getO ((zs.drop 1).take (5 - 1)) = (readP zs).epoch) := rfl
  have HE2 : Hid (getO ((zs.drop 5).take (9 - 5)) = (readP zs).number) := rfl
  have HE3 : Hid (getO ((zs.drop 9).take (11 - 9)) = (readP zs).index) := rfl
  have HD : Hid ((zs.drop 12).take (12 + x - 12) = (readP zs).data) := by unfold Hid readP; rw [hx, Nat.add_sub_cancel_left]
  have HL1 : Hid (((zs.drop 1).take (5 - 1)).length = 4) := by unfold Hid; rw [List.length_take, List.length_drop, hn]; decide
  have HL2 : Hid (((zs.drop 5).take (9 - 5)).length = 4) := by unfold Hid; rw [List.length_take, List.length_drop, hn]; decide
  have HL3 : Hid (((zs.drop 9).take (11 - 9)).length = 2) := by unfold Hid; rw [List.length_take, List.length_drop, hn]; decide
  have HL4 : Hid ((readP zs).data.length = x) := by unfold Hid; rw [← HD.out, List.length_take, List.length_drop, hn]; omega
  have HS1 : Hid (∀ z ∈ (zs.drop 1).take (5 - 1), z < 256) := small_part hz _ _
  have HS2 : Hid (∀ z ∈ (zs.drop 5).take (9 - 5), z < 256) := small_part hz _ _
  have HS3 : Hid (∀ z ∈ (zs.drop 9).take (11 - 9), z < 256) := small_part hz _ _
  have HS4 : Hid (∀ z ∈ (readP zs).data, z < 256) := readP_small hz
  rw [HD.out] at hx4
  generalize readP zs = r at *
  generalize (zs.drop 1).take (5 - 1) = P1 at *
  generalize (zs.drop 5).take (9 - 5) = P2 at *
  generalize (zs.drop 9).take (11 - 9) = P3 at *
  have HK1 : Hid (∀ (W : World) (m : Nat), W.heap.size = m → Octs (Lib.bytesWorld W 5 (strN P1)) (.slice (some ⟨m, 0, none⟩) 4 (grownCap W 4 0 5)) P1 ∧ Below W.heap.size W (Lib.bytesWorld W 5 (strN P1))) := fun W m hm => (back_at P1 4 HL1.out HS1.out (by decide) W m hm).2
  have hc1 : ∀ W : World, (convert 9 22 (.string (strN P1))).run Tryd.prog W = .ok (.slice (some ⟨W.heap.size, 0, none⟩) 4 (grownCap W 4 0 5)) (Lib.bytesWorld W 5 (strN P1)) := fun W => (back_at P1 4 HL1.out HS1.out (by decide) W _ rfl).1
  have HK2 : Hid (∀ (W : World) (m : Nat), W.heap.size = m → Octs (Lib.bytesWorld W 5 (strN P2)) (.slice (some ⟨m, 0, none⟩) 4 (grownCap W 4 0 5)) P2 ∧ Below W.heap.size W (Lib.bytesWorld W 5 (strN P2))) := fun W m hm => (back_at P2 4 HL2.out HS2.out (by decide) W m hm).2
  have hc2 : ∀ W : World, (convert 9 22 (.string (strN P2))).run Tryd.prog W = .ok (.slice (some ⟨W.heap.size, 0, none⟩) 4 (grownCap W 4 0 5)) (Lib.bytesWorld W 5 (strN P2)) := fun W => (back_at P2 4 HL2.out HS2.out (by decide) W _ rfl).1
  have HK3 : Hid (∀ (W : World) (m : Nat), W.heap.size = m → Octs (Lib.bytesWorld W 5 (strN P3)) (.slice (some ⟨m, 0, none⟩) 2 (grownCap W 2 0 5)) P3 ∧ Below W.heap.size W (Lib.bytesWorld W 5 (strN P3))) := fun W m hm => (back_at P3 2 HL3.out HS3.out (by decide) W m hm).2
  have hc3 : ∀ W : World, (convert 9 22 (.string (strN P3))).run Tryd.prog W = .ok (.slice (some ⟨W.heap.size, 0, none⟩) 2 (grownCap W 2 0 5)) (Lib.bytesWorld W 5 (strN P3)) := fun W => (back_at P3 2 HL3.out HS3.out (by decide) W _ rfl).1
  have HK4 : Hid (∀ (W : World) (m : Nat), W.heap.size = m → Octs (Lib.bytesWorld W 5 (strN r.data)) (.slice (some ⟨m, 0, none⟩) x (grownCap W x 0 5)) r.data ∧ Below W.heap.size W (Lib.bytesWorld W 5 (strN r.data))) := fun W m hm => (back_at r.data x HL4.out HS4.out (by omega) W m hm).2
  have hc4 : ∀ W : World, (convert 9 22 (.string (strN r.data))).run Tryd.prog W = .ok (.slice (some ⟨W.heap.size, 0, none⟩) x (grownCap W x 0 5)) (Lib.bytesWorld W 5 (strN r.data)) := fun W => (back_at r.data x HL4.out HS4.out (by omega) W _ rfl).1
  have FP : Hid (PA ((w.alloc (.cells #[.bool false, .int .i64 0, .int .i64 0, .int .i64 0, .slice none 0 0] 24)).alloc (.cells #[.bool false, .int .i64 0, .int .i64 0, .int .i64 0, .slice none 0 0] 24)) (w.heap.size + 1) false 0 0 0 (.slice none 0 0)) := by
    have := heap_alloc_new (w.alloc (.cells #[.bool false, .int .i64 0, .int .i64 0, .int .i64 0, .slice none 0 0] 24)) (.cells #[.bool false, .int .i64 0, .int .i64 0, .int .i64 0, .slice none 0 0] 24)
    rwa [show (w.alloc (.cells #[.bool false, .int .i64 0, .int .i64 0, .int .i64 0, .slice none 0 0] 24)).heap.size = w.heap.size + 1 by simp] at this
  have FZ : Hid (PA ((w.alloc (.cells #[.bool false, .int .i64 0, .int .i64 0, .int .i64 0, .slice none 0 0] 24)).alloc (.cells #[.bool false, .int .i64 0, .int .i64 0, .int .i64 0, .slice none 0 0] 24)) w.heap.size false 0 0 0 (.slice none 0 0)) := PA.same (B := w.heap.size + 1) (heap_alloc_new w _) ((Below.refl _ _).alloc (by simp) _) (by omega)
  have FB : Hid (Below w.heap.size w ((w.alloc (.cells #[.bool false, .int .i64 0, .int .i64 0, .int .i64 0, .slice none 0 0] 24)).alloc (.cells #[.bool false, .int .i64 0, .int .i64 0, .int .i64 0, .slice none 0 0] 24))) := ((Below.refl _ _).alloc (Nat.le_refl _) _).alloc (by simp) _
  have HZ1 : Hid (((w.alloc (.cells #[.bool false, .int .i64 0, .int .i64 0, .int .i64 0, .slice none 0 0] 24)).alloc (.cells #[.bool false, .int .i64 0, .int .i64 0, .int .i64 0, .slice none 0 0] 24)).heap.size = w.heap.size + 1 + 1) := by simp [Hid]
  have hx112 : ¬ (112 : Int) < (x : Int) := by omega
  have hy70 : ¬ (y : Int) = 70 := by omega
  have hyb : ((y : Int) == 70) = false := by simp; omega
  have ux : IntKind.i64.wrap (x : Int) = (x : Int) := by rw [IntKind.wrap_i64]; omega
  have ux2 : IntKind.i64.wrap (12 + (x : Int)) = 12 + (x : Int) := by rw [IntKind.wrap_i64]; omega
  have ux3 : (12 + (x : Int)).toNat = 12 + x := by omega
  have g1 : (0 : Int) ≤ 12 + (x : Int) := by omega
  have g2 : (12 : Int) ≤ 12 + (x : Int) := by omega
  have g3 : 12 + (x : Int) ≤ 128 := by omega
  clear hz hn hx hy HD
  go_enter Tryd.func10, Tryd.ntmps10
  go_wp2_with fail
  generalize ((w.alloc (.cells #[.bool false, .int .i64 0, .int .i64 0, .int .i64 0, .slice none 0 0] 24)).alloc (.cells #[.bool false, .int .i64 0, .int .i64 0, .int .i64 0, .slice none 0 0] 24)) = X1 at *
  refine (refGet_octs5 _ P1 (Lib.bytesWorld X1 5 (strN P1)) (HK1.out _ _ HZ1.out).1).mono ?_
  rintro e w1 ⟨rfl, hb⟩
  rw [HE1.out]
  have hbb := (HK1.out X1 _ rfl).2.trans (hb.mono (HK1.out X1 _ rfl).2.size)
  have FP1 : Hid (PA w1 (w.heap.size + 1) false 0 0 0 (.slice none 0 0)) := FP.out.same hbb FP.out.lt
  have FZ1 : Hid (PA w1 w.heap.size false 0 0 0 (.slice none 0 0)) := FZ.out.same hbb FZ.out.lt
  have FB1 : Hid (Below w.heap.size w w1) := FB.out.trans (hbb.mono FB.out.size)
  clear hb hbb FP FZ FB
  have c1 := FP1.out.cells.2.1
  have f1 := FP1.out.frozen 1
  have FP : Hid (PA (w1.setCell ⟨w.heap.size + 1, 1, none⟩ (.int .i64 r.epoch)) (w.heap.size + 1) false r.epoch 0 0 (.slice none 0 0)) := FP1.out.set1 r.epoch
  have FZ : Hid (PA (w1.setCell ⟨w.heap.size + 1, 1, none⟩ (.int .i64 r.epoch)) w.heap.size false 0 0 0 (.slice none 0 0)) := FZ1.out.other _ _ (by omega)
  have FB : Hid (Below w.heap.size w (w1.setCell ⟨w.heap.size + 1, 1, none⟩ (.int .i64 r.epoch))) := FB1.out.setCell (p := ⟨w.heap.size + 1, 1, none⟩) (by show w.heap.size ≤ w.heap.size + 1; omega) _
  have HZ2 : Hid ((w1.setCell ⟨w.heap.size + 1, 1, none⟩ (.int .i64 r.epoch)).heap.size = w1.heap.size) := by simp [Hid]
  clear FP1 FZ1 FB1
  go_wp2_with fail
  generalize w1.setCell ⟨w.heap.size + 1, 1, none⟩ (.int .i64 r.epoch) = X2 at *
  clear c1 f1 hx1 hc1
  refine (refGet_octs5 _ P2 (Lib.bytesWorld X2 5 (strN P2)) (HK2.out _ _ HZ2.out).1).mono ?_
  rintro e w2 ⟨rfl, hb⟩
  rw [HE2.out]
  have hbb := (HK2.out X2 _ rfl).2.trans (hb.mono (HK2.out X2 _ rfl).2.size)
  have FP2 : Hid (PA w2 (w.heap.size + 1) false r.epoch 0 0 (.slice none 0 0)) := FP.out.same hbb FP.out.lt
  have FZ2 : Hid (PA w2 w.heap.size false 0 0 0 (.slice none 0 0)) := FZ.out.same hbb FZ.out.lt
  have FB2 : Hid (Below w.heap.size w w2) := FB.out.trans (hbb.mono FB.out.size)
  clear hb hbb FP FZ FB
  have c2 := FP2.out.cells.2.2.1
  have f2 := FP2.out.frozen 2
  have FP : Hid (PA (w2.setCell ⟨w.heap.size + 1, 2, none⟩ (.int .i64 r.number)) (w.heap.size + 1) false r.epoch r.number 0 (.slice none 0 0)) := FP2.out.set2 r.number
  have FZ : Hid (PA (w2.setCell ⟨w.heap.size + 1, 2, none⟩ (.int .i64 r.number)) w.heap.size false 0 0 0 (.slice none 0 0)) := FZ2.out.other _ _ (by omega)
  have FB : Hid (Below w.heap.size w (w2.setCell ⟨w.heap.size + 1, 2, none⟩ (.int .i64 r.number))) := FB2.out.setCell (p := ⟨w.heap.size + 1, 2, none⟩) (by show w.heap.size ≤ w.heap.size + 1; omega) _
  have HZ3 : Hid ((w2.setCell ⟨w.heap.size + 1, 2, none⟩ (.int .i64 r.number)).heap.size = w2.heap.size) := by simp [Hid]
  clear FP2 FZ2 FB2
  go_wp2_with fail
  generalize w2.setCell ⟨w.heap.size + 1, 2, none⟩ (.int .i64 r.number) = X3 at *
  clear c2 f2 hx2 hc2
  refine (refGet_octs5 _ P3 (Lib.bytesWorld X3 5 (strN P3)) (HK3.out _ _ HZ3.out).1).mono ?_
  rintro e w3 ⟨rfl, hb⟩
  rw [HE3.out]
  have hbb := (HK3.out X3 _ rfl).2.trans (hb.mono (HK3.out X3 _ rfl).2.size)
  have FP3 : Hid (PA w3 (w.heap.size + 1) false r.epoch r.number 0 (.slice none 0 0)) := FP.out.same hbb FP.out.lt
  have FZ3 : Hid (PA w3 w.heap.size false 0 0 0 (.slice none 0 0)) := FZ.out.same hbb FZ.out.lt
  have FB3 : Hid (Below w.heap.size w w3) := FB.out.trans (hbb.mono FB.out.size)
  clear hb hbb FP FZ FB
  have c3 := FP3.out.cells.2.2.2.1
  have f3 := FP3.out.frozen 3
  have FP : Hid (PA (w3.setCell ⟨w.heap.size + 1, 3, none⟩ (.int .i64 r.index)) (w.heap.size + 1) false r.epoch r.number r.index (.slice none 0 0)) := FP3.out.set3 r.index
  have FZ : Hid (PA (w3.setCell ⟨w.heap.size + 1, 3, none⟩ (.int .i64 r.index)) w.heap.size false 0 0 0 (.slice none 0 0)) := FZ3.out.other _ _ (by omega)
  have FB : Hid (Below w.heap.size w (w3.setCell ⟨w.heap.size + 1, 3, none⟩ (.int .i64 r.index))) := FB3.out.setCell (p := ⟨w.heap.size + 1, 3, none⟩) (by show w.heap.size ≤ w.heap.size + 1; omega) _
  have HZ4 : Hid ((w3.setCell ⟨w.heap.size + 1, 3, none⟩ (.int .i64 r.index)).heap.size = w3.heap.size) := by simp [Hid]
  clear FP3 FZ3 FB3
  have YB := (HK4.out (w3.setCell ⟨w.heap.size + 1, 3, none⟩ (.int .i64 r.index)) w3.heap.size HZ4.out)
  have HG3 : Hid (w.heap.size + 1 < w3.heap.size) := by
    have := FP.out.lt
    rw [HZ4.out] at this
    exact this
  have FPy : Hid (PA (Lib.bytesWorld (w3.setCell ⟨w.heap.size + 1, 3, none⟩ (.int .i64 r.index)) 5 (strN r.data)) (w.heap.size + 1) false r.epoch r.number r.index (.slice none 0 0)) := FP.out.same YB.2 FP.out.lt
  have FZy : Hid (PA (Lib.bytesWorld (w3.setCell ⟨w.heap.size + 1, 3, none⟩ (.int .i64 r.index)) 5 (strN r.data)) w.heap.size false 0 0 0 (.slice none 0 0)) := FZ.out.same YB.2 FZ.out.lt
  have FBy : Hid (Below w.heap.size w (Lib.bytesWorld (w3.setCell ⟨w.heap.size + 1, 3, none⟩ (.int .i64 r.index)) 5 (strN r.data))) := FB.out.trans (YB.2.mono FB.out.size)
  have FOy : Hid (Octs (Lib.bytesWorld (w3.setCell ⟨w.heap.size + 1, 3, none⟩ (.int .i64 r.index)) 5 (strN r.data)) (.slice (some ⟨w3.heap.size, 0, none⟩) x (grownCap (w3.setCell ⟨w.heap.size + 1, 3, none⟩ (.int .i64 r.index)) x 0 5)) r.data) := YB.1
  clear YB FP FZ FB HK1 HK2 HK3 HK4
  obtain ⟨q0, q1, q2, q3, q4⟩ := FPy.out.cells
  have fy := FPy.out.frozen 4
  go_wp2_with fail
  clear q0 q1 q2 q3 q4 fy c3 f3 hx3 hc3 hc4 hx4
  generalize grownCap (w3.setCell ⟨w.heap.size + 1, 3, none⟩ (.int .i64 r.index)) x 0 5 = cp at *
  generalize Lib.bytesWorld (w3.setCell ⟨w.heap.size + 1, 3, none⟩ (.int .i64 r.index)) 5 (strN r.data) = Y at *
  have FP : Hid (PA (Y.setCell ⟨w.heap.size + 1, 4, none⟩ (.slice (some ⟨w3.heap.size, 0, none⟩) x cp)) (w.heap.size + 1) false r.epoch r.number r.index (.slice (some ⟨w3.heap.size, 0, none⟩) x cp)) := FPy.out.set4 _
  have FZ : Hid (PA (Y.setCell ⟨w.heap.size + 1, 4, none⟩ (.slice (some ⟨w3.heap.size, 0, none⟩) x cp)) w.heap.size false 0 0 0 (.slice none 0 0)) := FZy.out.other _ _ (by omega)
  have FB : Hid (Below w.heap.size w (Y.setCell ⟨w.heap.size + 1, 4, none⟩ (.slice (some ⟨w3.heap.size, 0, none⟩) x cp))) := FBy.out.setCell (p := ⟨w.heap.size + 1, 4, none⟩) (by show w.heap.size ≤ w.heap.size + 1; omega) _
  have FO : Hid (Octs (Y.setCell ⟨w.heap.size + 1, 4, none⟩ (.slice (some ⟨w3.heap.size, 0, none⟩) x cp)) (.slice (some ⟨w3.heap.size, 0, none⟩) x cp) r.data) := octs_block FOy.out (Below.heap_setCell _ _ _ _ (show w3.heap.size ≠ w.heap.size + 1 by have := HG3.out; omega))
  clear FPy FZy FBy FOy
  generalize Y.setCell ⟨w.heap.size + 1, 4, none⟩ (.slice (some ⟨w3.heap.size, 0, none⟩) x cp) = V at *
  generalize hvD : (Value.slice (some ⟨w3.heap.size, 0, none⟩) x cp) = vD at *
  have HR := refRight6 r vD V FO.out
  unfold pval at HR
  rw [hft] at HR
  refine HR.mono ?_
  rintro e w8 ⟨rfl, hb8⟩
  have FP8 : Hid (PA w8 (w.heap.size + 1) false r.epoch r.number r.index vD) := FP.out.same hb8 FP.out.lt
  have FZ8 : Hid (PA w8 w.heap.size false 0 0 0 (.slice none 0 0)) := FZ.out.same hb8 FZ.out.lt
  have FB8 : Hid (Below w.heap.size w w8) := FB.out.trans (hb8.mono FB.out.size)
  have FO8 : Hid (Octs w8 vD r.data) := FO.out.kept hb8
  clear hb8 HR FP FZ FB FO
  by_cases hok : okP r = true
  · rw [hok]
    obtain ⟨q0, q1, q2, q3, q4⟩ := FP8.out.cells
    go_wp2_with fail
    clear q0 q1 q2 q3 q4
    have HQ := refPut6 r vD w8 hok FO8.out
    unfold pval at HQ
    rw [hft] at HQ
    refine HQ.mono ?_
    rintro e w9 ⟨rfl, hb9⟩
    have FP9 : Hid (PA w9 (w.heap.size + 1) false r.epoch r.number r.index vD) := FP8.out.same hb9 FP8.out.lt
    have FZ9 : Hid (PA w9 w.heap.size false 0 0 0 (.slice none 0 0)) := FZ8.out.same hb9 FZ8.out.lt
    have FB9 : Hid (Below w.heap.size w w9) := FB8.out.trans (hb9.mono FB8.out.size)
    have FO9 : Hid (Octs w9 vD r.data) := FO8.out.kept hb9
    clear hb9 HQ
    have hq := heq.out
    by_cases hs : sect6 r = zs
    · have hd : decide (sect6 r = zs) = true := decide_eq_true hs
      rw [hd] at hq
      have HV : Hid (getP zs = some r) := by unfold Hid; rw [HTO.out, HTB.out, hok, hd]; rfl
      clear hs hd
      obtain ⟨q0, q1, q2, q3, q4⟩ := FP9.out.cells
      subst hvD
      go_wp2_with ((with_reducible show wpList _ _ _ (Oper.mk _ (Op.store _ _ _) _ _ _ _ :: _) _ _); go_must (refine wpList_store_mid rfl 24 _ _ rfl w.heap.size 0 #[.bool false, .int .i64 r.epoch, .int .i64 r.number, .int .i64 r.index, .slice (some ⟨w3.heap.size, 0, none⟩) x cp] rfl rfl FZ9.out.there Tryd.sizeP6 (pa_one _ _ _ _ _ _ _) ?_))
      go_wp2
      exact bodyPost_ret (v := .tuple #[.agg #[.bool false, .int .i64 r.epoch, .int .i64 r.number, .int .i64 r.index, .slice (some ⟨w3.heap.size, 0, none⟩) x cp], .bool true]) (results_cell2 rfl rfl rfl (pa_loadSet FZ9.out false r.epoch r.number r.index (.slice (some ⟨w3.heap.size, 0, none⟩) x cp))) rfl ⟨_, (by rw [HV.out]; show _ = Ending.returned (.tuple #[.agg #[.bool r.foot, .int .i64 r.epoch, .int .i64 r.number, .int .i64 r.index, .slice (some ⟨w3.heap.size, 0, none⟩) x cp], .bool true]); rw [hft]), (by rw [HV.out]; exact octs_block FO9.out (heap_setCells_ne _ _ (by have := HG3.out; omega))), (fun h => by rw [HV.out] at h; cases h), below_setCells FB9.out (Nat.le_refl _) _ _⟩
    · have hd : decide (sect6 r = zs) = false := decide_eq_false hs
      rw [hd] at hq
      have HV : Hid (getP zs = none) := by unfold Hid; rw [HTO.out, HTB.out, hok, hd]; rfl
      clear hs hd
      go_wp2_with ((with_reducible show wpList _ _ _ (Oper.mk _ (Op.store _ _ _) _ _ _ _ :: _) _ _); go_must (refine wpList_store_mid rfl 24 _ _ rfl w.heap.size 0 #[.bool false, .int .i64 0, .int .i64 0, .int .i64 0, .slice none 0 0] rfl rfl FZ9.out.there Tryd.sizeP6 (pa_one _ _ _ _ _ _ _) ?_))
      go_wp2
      exact bodyPost_ret (v := gotV none (.slice none 0 0)) (results_cell2 rfl rfl rfl (pa_loadSet FZ9.out false 0 0 0 (.slice none 0 0))) rfl ⟨.slice none 0 0, (by rw [HV.out]), (by rw [HV.out]; exact octs_nil _), (fun _ => rfl), below_setCells FB9.out (Nat.le_refl _) _ _⟩

  · have hok' : okP r = false := by simpa using hok
    rw [hok']
    have HV : Hid (getP zs = none) := by unfold Hid; rw [HTO.out, HTB.out, hok']; rfl
    go_wp2_with ((with_reducible show wpList _ _ _ (Oper.mk _ (Op.store _ _ _) _ _ _ _ :: _) _ _); go_must (refine wpList_store_mid rfl 24 _ _ rfl w.heap.size 0 #[.bool false, .int .i64 0, .int .i64 0, .int .i64 0, .slice none 0 0] rfl rfl FZ8.out.there Tryd.sizeP6 (pa_one _ _ _ _ _ _ _) ?_))
    go_wp2
    exact bodyPost_ret (v := gotV none (.slice none 0 0)) (results_cell2 rfl rfl rfl (pa_loadSet FZ8.out false 0 0 0 (.slice none 0 0))) rfl ⟨.slice none 0 0, (by rw [HV.out]), (by rw [HV.out]; exact octs_nil _), (fun _ => rfl), below_setCells FB8.out (Nat.le_refl _) _ _⟩


set_option maxHeartbeats 400000 in
theorem refGet6_none (zs : List Nat) (hz : ∀ z ∈ zs, z < 256) (hl : zs.length ≤ 100000) (h : zs.length ≠ 128 ∨ 112 < zs[11]?.getD 0) (w : World) : Calls Tryd.prog 10 #[.string (strN zs)] w fun e w' => ∃ v, e = .returned (gotV (getP zs) v) ∧ Octs w' v ((getP zs).getD Part.zero).data ∧ (getP zs = none → v = .slice none 0 0) ∧ Below w.heap.size w w' := by
  have hsz := strN_size zs
  have HV : Hid (getP zs = none) := by
    unfold Hid getP getB
    rcases h with h | h
    · rw [decide_eq_false h]; rfl
    · rw [decide_eq_false (show ¬ zs[11]?.getD 0 ≤ 112 by omega)]; simp
  have FZ : Hid (PA (w.alloc (.cells #[.bool false, .int .i64 0, .int .i64 0, .int .i64 0, .slice none 0 0] 24)) w.heap.size false 0 0 0 (.slice none 0 0)) := heap_alloc_new w _
  have FB : Hid (Below w.heap.size w (w.alloc (.cells #[.bool false, .int .i64 0, .int .i64 0, .int .i64 0, .slice none 0 0] 24))) := (Below.refl _ _).alloc (Nat.le_refl _) _
  by_cases hn : zs.length = 128
  · have h112 : 112 < zs[11]?.getD 0 := by omega
    rw [hn] at hsz
    obtain ⟨x, hx⟩ : ∃ x, zs[11]?.getD 0 = x := ⟨_, rfl⟩
    rw [hx] at h112
    have hx8 : x < 256 := by
      rw [← hx, List.getElem?_eq_getElem (show 11 < zs.length by omega)]
      exact hz _ (List.getElem_mem _)
    have hi11 := strN_at6 zs 11 x hx hx8 (by omega)
    have hx112 : (112 : Int) < (x : Int) := by omega
    clear h hz hl hx hn
    go_enter Tryd.func10, Tryd.ntmps10
    go_wp2_with ((with_reducible show wpList _ _ _ (Oper.mk _ (Op.store _ _ _) _ _ _ _ :: _) _ _); go_must (refine wpList_store_mid rfl 24 _ _ rfl w.heap.size 0 #[.bool false, .int .i64 0, .int .i64 0, .int .i64 0, .slice none 0 0] rfl rfl FZ.out.there Tryd.sizeP6 (pa_one _ _ _ _ _ _ _) ?_))
    go_wp2
    exact bodyPost_ret (v := gotV none (.slice none 0 0)) (results_cell2 rfl rfl rfl (pa_loadSet FZ.out false 0 0 0 (.slice none 0 0))) rfl ⟨.slice none 0 0, (by rw [HV.out]), (by rw [HV.out]; exact octs_nil _), (fun _ => rfl), below_setCells FB.out (Nat.le_refl _) _ _⟩
  · have hn' : ¬ (zs.length : Int) = 128 := by omega
    clear h hz
    go_enter Tryd.func10, Tryd.ntmps10
    go_wp2_with ((with_reducible show wpList _ _ _ (Oper.mk _ (Op.store _ _ _) _ _ _ _ :: _) _ _); go_must (refine wpList_store_mid rfl 24 _ _ rfl w.heap.size 0 #[.bool false, .int .i64 0, .int .i64 0, .int .i64 0, .slice none 0 0] rfl rfl FZ.out.there Tryd.sizeP6 (pa_one _ _ _ _ _ _ _) ?_))
    go_wp2
    exact bodyPost_ret (v := gotV none (.slice none 0 0)) (results_cell2 rfl rfl rfl (pa_loadSet FZ.out false 0 0 0 (.slice none 0 0))) rfl ⟨.slice none 0 0, (by rw [HV.out]), (by rw [HV.out]; exact octs_nil _), (fun _ => rfl), below_setCells FB.out (Nat.le_refl _) _ _⟩

theorem refGet6 (zs : List Nat) (hz : ∀ z ∈ zs, z < 256) (hl : zs.length ≤ 100000) (w : World) : Calls Tryd.prog 10 #[.string (strN zs)] w fun e w' => ∃ v, e = .returned (gotV (getP zs) v) ∧ Octs w' v ((getP zs).getD Part.zero).data ∧ (getP zs = none → v = .slice none 0 0) ∧ Below w.heap.size w w' := by
  by_cases hn : zs.length = 128
  · by_cases h11 : zs[11]?.getD 0 ≤ 112
    · by_cases h70 : zs[0]?.getD 0 = 70
      · exact refGet6_true zs hz hn h11 h70 w
      · exact refGet6_false zs hz hn h11 h70 w
    · exact refGet6_none zs hz hl (.inr (by omega)) w
  · exact refGet6_none zs hz hl (.inl hn) w
end Go.Proofs.YtndeknkfljnjoaaDoor
