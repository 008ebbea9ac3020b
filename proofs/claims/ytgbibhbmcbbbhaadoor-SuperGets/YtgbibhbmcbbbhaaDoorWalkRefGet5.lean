/- The document's Get: its contract. (Written by wip/mk_refget5.py.) -/
import Derived.Test.YtgbibhbmcbbbhaaDoorWalkRefPut5
namespace Go.Proofs.YtgbibhbmcbbbhaaDoor
open Go.RowKit
set_option linter.unusedVariables false

theorem strN_cut (zs : List Nat) (a b : Nat) : (strN zs).extract a b = strN ((zs.drop a).take (b - a)) := by
  apply ByteArray.ext
  rw [ByteArray.data_extract]
  simp [strN, strOfNums, List.map_take, List.map_drop]
theorem back_at (zs : List Nat) (n : Nat) (hn : zs.length = n) (hz : ∀ z ∈ zs, z < 256) (hl : n ≤ 100000) (W : World) (m : Nat) (hm : W.heap.size = m) :
    (convert 9 26 (.string (strN zs))).run Tryd.prog W = .ok (.slice (some ⟨m, 0, none⟩) n (grownCap W n 0 5)) (Lib.bytesWorld W 5 (strN zs)) ∧ Octs (Lib.bytesWorld W 5 (strN zs)) (.slice (some ⟨m, 0, none⟩) n (grownCap W n 0 5)) zs ∧ Below W.heap.size W (Lib.bytesWorld W 5 (strN zs)) := by
  subst hm; subst hn
  exact conv_back6 W zs hz hl
theorem str_eqv (a b : List Nat) (ha : ∀ z ∈ a, z < 256) (hb : ∀ z ∈ b, z < 256) : ((strN a).toList == (strN b).toList) = decide (a = b) := by
  by_cases h : a = b
  · subst h; simp
  · rw [decide_eq_false h]
    apply beq_false_of_ne
    intro e
    refine h (strN_inj ha hb ?_)
    simp only [ByteArray.toList_eq] at e
    exact ByteArray.ext (Array.toList_inj.1 e)
theorem SupAt.set_journal {w : World} {b : Nat} {s : Sup} (h : SupAt w b s) (v : Int) : SupAt (w.setCell ⟨b, 1, none⟩ (.int .i64 v)) b { s with journal := v } := (heap_set_row h 1 _).trans rfl
theorem SupAt.set_area {w : World} {b : Nat} {s : Sup} (h : SupAt w b s) (v : Int) : SupAt (w.setCell ⟨b, 2, none⟩ (.int .i64 v)) b { s with area := v } := (heap_set_row h 2 _).trans rfl
theorem SupAt.set_which {w : World} {b : Nat} {s : Sup} (h : SupAt w b s) (v : Int) : SupAt (w.setCell ⟨b, 3, none⟩ (.int .i64 v)) b { s with which := v } := (heap_set_row h 3 _).trans rfl
theorem SupAt.set_len {w : World} {b : Nat} {s : Sup} (h : SupAt w b s) (v : Int) : SupAt (w.setCell ⟨b, 4, none⟩ (.int .i64 v)) b { s with len := v } := (heap_set_row h 4 _).trans rfl
theorem SupAt.set_sum {w : World} {b : Nat} {s : Sup} (h : SupAt w b s) (v : Int) : SupAt (w.setCell ⟨b, 5, none⟩ (.int .u32 v)) b { s with sum := v } := (heap_set_row h 5 _).trans rfl
theorem SupAt.set_epoch {w : World} {b : Nat} {s : Sup} (h : SupAt w b s) (v : Int) : SupAt (w.setCell ⟨b, 6, none⟩ (.int .i64 v)) b { s with epoch := v } := (heap_set_row h 6 _).trans rfl
theorem SupAt.set_start {w : World} {b : Nat} {s : Sup} (h : SupAt w b s) (v : Int) : SupAt (w.setCell ⟨b, 7, none⟩ (.int .i64 v)) b { s with start := v } := (heap_set_row h 7 _).trans rfl

set_option maxHeartbeats 2000000 in
set_option maxRecDepth 20000 in
theorem refGet5 (zs : List Nat) (hz : ∀ z ∈ zs, z < 256) (hl : zs.length ≤ 100000) (w : World) : Calls Tryd.prog 14 #[.string (strN zs)] w fun e w' => e = .returned (toldV (getS zs)) ∧ Below w.heap.size w w' := by
  have hsz := strN_size zs
  have W2 : Hid (SupAt (w.alloc (.cells Sup.zero.cl.toArray 24)) w.heap.size Sup.zero) := heap_alloc_new w _
  have W1 : Hid (Below w.heap.size w (w.alloc (.cells Sup.zero.cl.toArray 24))) := (Below.refl _ _).alloc (Nat.le_refl _) _
  by_cases hn : zs.length = 128
  · have HG : Hid (getS zs = toldS zs) := if_pos hn
    rw [hn] at hsz
    have HN : Hid (zs.length = 128) := hn
    have HZ : Hid (∀ z ∈ zs, z < 256) := hz
    have HFit : Hid (readS zs).Fits := readS_fits hz
    have HTB : Hid (toldB zs = (okS (readS zs) && decide (sect (readS zs) = zs))) := rfl
    have HTO : Hid (toldS zs = if toldB zs = true then some (readS zs) else none) := rfl
    have heq : Hid (((strN (sect (readS zs))).toList == (strN zs).toList) = decide (sect (readS zs) = zs)) := str_eqv _ _ (sect_small _) hz
    have hx0 := strN_cut zs 4 12
    have HL0 : Hid (((zs.drop 4).take (12 - 4)).length = 8) := by unfold Hid; rw [List.length_take, List.length_drop, hn]; decide
    have HS0 : Hid (∀ z ∈ (zs.drop 4).take (12 - 4), z < 256) := small_part hz _ _
    have HE0 : Hid (getO ((zs.drop 4).take (12 - 4)) = (readS zs).gen) := rfl
    have hx1 := strN_cut zs 12 16
    have HL1 : Hid (((zs.drop 12).take (16 - 12)).length = 4) := by unfold Hid; rw [List.length_take, List.length_drop, hn]; decide
    have HS1 : Hid (∀ z ∈ (zs.drop 12).take (16 - 12), z < 256) := small_part hz _ _
    have HE1 : Hid (getO ((zs.drop 12).take (16 - 12)) = (readS zs).journal) := rfl
    have hx2 := strN_cut zs 16 20
    have HL2 : Hid (((zs.drop 16).take (20 - 16)).length = 4) := by unfold Hid; rw [List.length_take, List.length_drop, hn]; decide
    have HS2 : Hid (∀ z ∈ (zs.drop 16).take (20 - 16), z < 256) := small_part hz _ _
    have HE2 : Hid (getO ((zs.drop 16).take (20 - 16)) = (readS zs).area) := rfl
    have hx3 := strN_cut zs 20 24
    have HL3 : Hid (((zs.drop 20).take (24 - 20)).length = 4) := by unfold Hid; rw [List.length_take, List.length_drop, hn]; decide
    have HS3 : Hid (∀ z ∈ (zs.drop 20).take (24 - 20), z < 256) := small_part hz _ _
    have HE3 : Hid (getO ((zs.drop 20).take (24 - 20)) = (readS zs).which) := rfl
    have hx4 := strN_cut zs 24 28
    have HL4 : Hid (((zs.drop 24).take (28 - 24)).length = 4) := by unfold Hid; rw [List.length_take, List.length_drop, hn]; decide
    have HS4 : Hid (∀ z ∈ (zs.drop 24).take (28 - 24), z < 256) := small_part hz _ _
    have HE4 : Hid (getO ((zs.drop 24).take (28 - 24)) = (readS zs).len) := rfl
    have hx5 := strN_cut zs 28 32
    have HL5 : Hid (((zs.drop 28).take (32 - 28)).length = 4) := by unfold Hid; rw [List.length_take, List.length_drop, hn]; decide
    have HS5 : Hid (∀ z ∈ (zs.drop 28).take (32 - 28), z < 256) := small_part hz _ _
    have HE5 : Hid (getO ((zs.drop 28).take (32 - 28)) = (readS zs).sum) := rfl
    have hx6 := strN_cut zs 32 36
    have HL6 : Hid (((zs.drop 32).take (36 - 32)).length = 4) := by unfold Hid; rw [List.length_take, List.length_drop, hn]; decide
    have HS6 : Hid (∀ z ∈ (zs.drop 32).take (36 - 32), z < 256) := small_part hz _ _
    have HE6 : Hid (getO ((zs.drop 32).take (36 - 32)) = (readS zs).epoch) := rfl
    have hx7 := strN_cut zs 36 40
    have HL7 : Hid (((zs.drop 36).take (40 - 36)).length = 4) := by unfold Hid; rw [List.length_take, List.length_drop, hn]; decide
    have HS7 : Hid (∀ z ∈ (zs.drop 36).take (40 - 36), z < 256) := small_part hz _ _
    have HE7 : Hid (getO ((zs.drop 36).take (40 - 36)) = (readS zs).start) := rfl
    have hsum := (readS_fits hz).sum
    generalize readS zs = r at *
    have eu : IntKind.u32.wrap r.sum = r.sum := by rw [IntKind.wrap_u32]; omega
    generalize (zs.drop 4).take (12 - 4) = P0 at *
    have HK0 : Hid (∀ (W : World) (m : Nat), W.heap.size = m → Octs (Lib.bytesWorld W 5 (strN P0)) (.slice (some ⟨m, 0, none⟩) 8 (grownCap W 8 0 5)) P0 ∧ Below W.heap.size W (Lib.bytesWorld W 5 (strN P0))) := fun W m hm => (back_at P0 8 HL0.out HS0.out (by decide) W m hm).2
    have hc0 : ∀ W : World, (convert 9 26 (.string (strN P0))).run Tryd.prog W = .ok (.slice (some ⟨W.heap.size, 0, none⟩) 8 (grownCap W 8 0 5)) (Lib.bytesWorld W 5 (strN P0)) := fun W => (back_at P0 8 HL0.out HS0.out (by decide) W _ rfl).1
    generalize (zs.drop 12).take (16 - 12) = P1 at *
    have HK1 : Hid (∀ (W : World) (m : Nat), W.heap.size = m → Octs (Lib.bytesWorld W 5 (strN P1)) (.slice (some ⟨m, 0, none⟩) 4 (grownCap W 4 0 5)) P1 ∧ Below W.heap.size W (Lib.bytesWorld W 5 (strN P1))) := fun W m hm => (back_at P1 4 HL1.out HS1.out (by decide) W m hm).2
    have hc1 : ∀ W : World, (convert 9 26 (.string (strN P1))).run Tryd.prog W = .ok (.slice (some ⟨W.heap.size, 0, none⟩) 4 (grownCap W 4 0 5)) (Lib.bytesWorld W 5 (strN P1)) := fun W => (back_at P1 4 HL1.out HS1.out (by decide) W _ rfl).1
    generalize (zs.drop 16).take (20 - 16) = P2 at *
    have HK2 : Hid (∀ (W : World) (m : Nat), W.heap.size = m → Octs (Lib.bytesWorld W 5 (strN P2)) (.slice (some ⟨m, 0, none⟩) 4 (grownCap W 4 0 5)) P2 ∧ Below W.heap.size W (Lib.bytesWorld W 5 (strN P2))) := fun W m hm => (back_at P2 4 HL2.out HS2.out (by decide) W m hm).2
    have hc2 : ∀ W : World, (convert 9 26 (.string (strN P2))).run Tryd.prog W = .ok (.slice (some ⟨W.heap.size, 0, none⟩) 4 (grownCap W 4 0 5)) (Lib.bytesWorld W 5 (strN P2)) := fun W => (back_at P2 4 HL2.out HS2.out (by decide) W _ rfl).1
    generalize (zs.drop 20).take (24 - 20) = P3 at *
    have HK3 : Hid (∀ (W : World) (m : Nat), W.heap.size = m → Octs (Lib.bytesWorld W 5 (strN P3)) (.slice (some ⟨m, 0, none⟩) 4 (grownCap W 4 0 5)) P3 ∧ Below W.heap.size W (Lib.bytesWorld W 5 (strN P3))) := fun W m hm => (back_at P3 4 HL3.out HS3.out (by decide) W m hm).2
    have hc3 : ∀ W : World, (convert 9 26 (.string (strN P3))).run Tryd.prog W = .ok (.slice (some ⟨W.heap.size, 0, none⟩) 4 (grownCap W 4 0 5)) (Lib.bytesWorld W 5 (strN P3)) := fun W => (back_at P3 4 HL3.out HS3.out (by decide) W _ rfl).1
    generalize (zs.drop 24).take (28 - 24) = P4 at *
    have HK4 : Hid (∀ (W : World) (m : Nat), W.heap.size = m → Octs (Lib.bytesWorld W 5 (strN P4)) (.slice (some ⟨m, 0, none⟩) 4 (grownCap W 4 0 5)) P4 ∧ Below W.heap.size W (Lib.bytesWorld W 5 (strN P4))) := fun W m hm => (back_at P4 4 HL4.out HS4.out (by decide) W m hm).2
    have hc4 : ∀ W : World, (convert 9 26 (.string (strN P4))).run Tryd.prog W = .ok (.slice (some ⟨W.heap.size, 0, none⟩) 4 (grownCap W 4 0 5)) (Lib.bytesWorld W 5 (strN P4)) := fun W => (back_at P4 4 HL4.out HS4.out (by decide) W _ rfl).1
    generalize (zs.drop 28).take (32 - 28) = P5 at *
    have HK5 : Hid (∀ (W : World) (m : Nat), W.heap.size = m → Octs (Lib.bytesWorld W 5 (strN P5)) (.slice (some ⟨m, 0, none⟩) 4 (grownCap W 4 0 5)) P5 ∧ Below W.heap.size W (Lib.bytesWorld W 5 (strN P5))) := fun W m hm => (back_at P5 4 HL5.out HS5.out (by decide) W m hm).2
    have hc5 : ∀ W : World, (convert 9 26 (.string (strN P5))).run Tryd.prog W = .ok (.slice (some ⟨W.heap.size, 0, none⟩) 4 (grownCap W 4 0 5)) (Lib.bytesWorld W 5 (strN P5)) := fun W => (back_at P5 4 HL5.out HS5.out (by decide) W _ rfl).1
    generalize (zs.drop 32).take (36 - 32) = P6 at *
    have HK6 : Hid (∀ (W : World) (m : Nat), W.heap.size = m → Octs (Lib.bytesWorld W 5 (strN P6)) (.slice (some ⟨m, 0, none⟩) 4 (grownCap W 4 0 5)) P6 ∧ Below W.heap.size W (Lib.bytesWorld W 5 (strN P6))) := fun W m hm => (back_at P6 4 HL6.out HS6.out (by decide) W m hm).2
    have hc6 : ∀ W : World, (convert 9 26 (.string (strN P6))).run Tryd.prog W = .ok (.slice (some ⟨W.heap.size, 0, none⟩) 4 (grownCap W 4 0 5)) (Lib.bytesWorld W 5 (strN P6)) := fun W => (back_at P6 4 HL6.out HS6.out (by decide) W _ rfl).1
    generalize (zs.drop 36).take (40 - 36) = P7 at *
    have HK7 : Hid (∀ (W : World) (m : Nat), W.heap.size = m → Octs (Lib.bytesWorld W 5 (strN P7)) (.slice (some ⟨m, 0, none⟩) 4 (grownCap W 4 0 5)) P7 ∧ Below W.heap.size W (Lib.bytesWorld W 5 (strN P7))) := fun W m hm => (back_at P7 4 HL7.out HS7.out (by decide) W m hm).2
    have hc7 : ∀ W : World, (convert 9 26 (.string (strN P7))).run Tryd.prog W = .ok (.slice (some ⟨W.heap.size, 0, none⟩) 4 (grownCap W 4 0 5)) (Lib.bytesWorld W 5 (strN P7)) := fun W => (back_at P7 4 HL7.out HS7.out (by decide) W _ rfl).1
    clear hz hl hn
    go_enter Tryd.func14, Tryd.ntmps14
    go_wp2_with fail
    refine (refGet_octs5 _ P0 (Lib.bytesWorld (w.alloc (.cells Sup.zero.cl.toArray 24)) 5 (strN P0)) (HK0.out _ (w.heap.size + 1) (by simp)).1).mono ?_
    rintro e w0 ⟨rfl, hb⟩
    rw [HE0.out]
    have hbb := (HK0.out _ _ rfl).2.trans (hb.mono (HK0.out _ _ rfl).2.size)
    have Z0 : Hid (SupAt w0 w.heap.size Sup.zero) := W2.out.same hbb W2.out.lt
    have B0 : Hid (Below w.heap.size w w0) := W1.out.trans (hbb.mono W1.out.size)
    have Y0 : Hid (SupAt (w0.alloc (.cells #[.int .i64 r.gen, .int .i64 0, .int .i64 0, .int .i64 0, .int .i64 0, .int .u32 0, .int .i64 0, .int .i64 0] 24)) w0.heap.size ⟨r.gen, 0, 0, 0, 0, 0, 0, 0⟩) := heap_alloc_new _ _
    have Z0' : Hid (SupAt (w0.alloc (.cells #[.int .i64 r.gen, .int .i64 0, .int .i64 0, .int .i64 0, .int .i64 0, .int .u32 0, .int .i64 0, .int .i64 0] 24)) w.heap.size Sup.zero) := SupAt.same Z0.out ((Below.refl _ _).alloc (Nat.le_refl _) _) Z0.out.lt
    have B0' : Hid (Below w.heap.size w (w0.alloc (.cells #[.int .i64 r.gen, .int .i64 0, .int .i64 0, .int .i64 0, .int .i64 0, .int .u32 0, .int .i64 0, .int .i64 0] 24))) := B0.out.alloc B0.out.size _
    have HNE : Hid (w.heap.size ≠ w0.heap.size) := by have := Z0.out.lt; unfold Hid; omega
    clear hb hbb hx0 hc0
    go_wp2_with fail
    refine (refGet_octs5 _ P1 (Lib.bytesWorld (w0.alloc (.cells #[.int .i64 r.gen, .int .i64 0, .int .i64 0, .int .i64 0, .int .i64 0, .int .u32 0, .int .i64 0, .int .i64 0] 24)) 5 (strN P1)) (HK1.out _ (w0.heap.size + 1) (by simp)).1).mono ?_
    rintro e w1 ⟨rfl, hb⟩
    rw [HE1.out]
    have hbb := (HK1.out (w0.alloc (.cells #[.int .i64 r.gen, .int .i64 0, .int .i64 0, .int .i64 0, .int .i64 0, .int .u32 0, .int .i64 0, .int .i64 0] 24)) _ rfl).2.trans (hb.mono (HK1.out (w0.alloc (.cells #[.int .i64 r.gen, .int .i64 0, .int .i64 0, .int .i64 0, .int .i64 0, .int .u32 0, .int .i64 0, .int .i64 0] 24)) _ rfl).2.size)
    have X1 : Hid (SupAt w1 w0.heap.size ⟨r.gen, 0, 0, 0, 0, 0, 0, 0⟩) := Y0.out.same hbb Y0.out.lt
    have Z1 : Hid (SupAt w1 w.heap.size Sup.zero) := Z0'.out.same hbb Z0'.out.lt
    have B1 : Hid (Below w.heap.size w w1) := B0'.out.trans (hbb.mono B0'.out.size)
    have c1 := X1.out.cells.2.1
    have f1 := X1.out.frozen 1
    have Y1 : Hid (SupAt (w1.setCell ⟨w0.heap.size, 1, none⟩ (.int .i64 r.journal)) w0.heap.size ⟨r.gen, r.journal, 0, 0, 0, 0, 0, 0⟩) := X1.out.set_journal r.journal
    have Z1' : Hid (SupAt (w1.setCell ⟨w0.heap.size, 1, none⟩ (.int .i64 r.journal)) w.heap.size Sup.zero) := (Below.heap_setCell _ _ _ _ HNE.out).trans Z1.out
    have B1' : Hid (Below w.heap.size w (w1.setCell ⟨w0.heap.size, 1, none⟩ (.int .i64 r.journal))) := B1.out.setCell (p := ⟨w0.heap.size, 1, none⟩) B0.out.size _
    clear hb hbb hx1 hc1 Y0 Z0' B0' Z1 B1
    go_wp2_with fail
    clear c1 f1 X1
    refine (refGet_octs5 _ P2 (Lib.bytesWorld (w1.setCell ⟨w0.heap.size, 1, none⟩ (.int .i64 r.journal)) 5 (strN P2)) (HK2.out _ w1.heap.size (by simp)).1).mono ?_
    rintro e w2 ⟨rfl, hb⟩
    rw [HE2.out]
    have hbb := (HK2.out (w1.setCell ⟨w0.heap.size, 1, none⟩ (.int .i64 r.journal)) _ rfl).2.trans (hb.mono (HK2.out (w1.setCell ⟨w0.heap.size, 1, none⟩ (.int .i64 r.journal)) _ rfl).2.size)
    have X2 : Hid (SupAt w2 w0.heap.size ⟨r.gen, r.journal, 0, 0, 0, 0, 0, 0⟩) := Y1.out.same hbb Y1.out.lt
    have Z2 : Hid (SupAt w2 w.heap.size Sup.zero) := Z1'.out.same hbb Z1'.out.lt
    have B2 : Hid (Below w.heap.size w w2) := B1'.out.trans (hbb.mono B1'.out.size)
    have c2 := X2.out.cells.2.2.1
    have f2 := X2.out.frozen 2
    have Y2 : Hid (SupAt (w2.setCell ⟨w0.heap.size, 2, none⟩ (.int .i64 r.area)) w0.heap.size ⟨r.gen, r.journal, r.area, 0, 0, 0, 0, 0⟩) := X2.out.set_area r.area
    have Z2' : Hid (SupAt (w2.setCell ⟨w0.heap.size, 2, none⟩ (.int .i64 r.area)) w.heap.size Sup.zero) := (Below.heap_setCell _ _ _ _ HNE.out).trans Z2.out
    have B2' : Hid (Below w.heap.size w (w2.setCell ⟨w0.heap.size, 2, none⟩ (.int .i64 r.area))) := B2.out.setCell (p := ⟨w0.heap.size, 2, none⟩) B0.out.size _
    clear hb hbb hx2 hc2 Y1 Z1' B1' Z2 B2
    go_wp2_with fail
    clear c2 f2 X2
    refine (refGet_octs5 _ P3 (Lib.bytesWorld (w2.setCell ⟨w0.heap.size, 2, none⟩ (.int .i64 r.area)) 5 (strN P3)) (HK3.out _ w2.heap.size (by simp)).1).mono ?_
    rintro e w3 ⟨rfl, hb⟩
    rw [HE3.out]
    have hbb := (HK3.out (w2.setCell ⟨w0.heap.size, 2, none⟩ (.int .i64 r.area)) _ rfl).2.trans (hb.mono (HK3.out (w2.setCell ⟨w0.heap.size, 2, none⟩ (.int .i64 r.area)) _ rfl).2.size)
    have X3 : Hid (SupAt w3 w0.heap.size ⟨r.gen, r.journal, r.area, 0, 0, 0, 0, 0⟩) := Y2.out.same hbb Y2.out.lt
    have Z3 : Hid (SupAt w3 w.heap.size Sup.zero) := Z2'.out.same hbb Z2'.out.lt
    have B3 : Hid (Below w.heap.size w w3) := B2'.out.trans (hbb.mono B2'.out.size)
    have c3 := X3.out.cells.2.2.2.1
    have f3 := X3.out.frozen 3
    have Y3 : Hid (SupAt (w3.setCell ⟨w0.heap.size, 3, none⟩ (.int .i64 r.which)) w0.heap.size ⟨r.gen, r.journal, r.area, r.which, 0, 0, 0, 0⟩) := X3.out.set_which r.which
    have Z3' : Hid (SupAt (w3.setCell ⟨w0.heap.size, 3, none⟩ (.int .i64 r.which)) w.heap.size Sup.zero) := (Below.heap_setCell _ _ _ _ HNE.out).trans Z3.out
    have B3' : Hid (Below w.heap.size w (w3.setCell ⟨w0.heap.size, 3, none⟩ (.int .i64 r.which))) := B3.out.setCell (p := ⟨w0.heap.size, 3, none⟩) B0.out.size _
    clear hb hbb hx3 hc3 Y2 Z2' B2' Z3 B3
    go_wp2_with fail
    clear c3 f3 X3
    refine (refGet_octs5 _ P4 (Lib.bytesWorld (w3.setCell ⟨w0.heap.size, 3, none⟩ (.int .i64 r.which)) 5 (strN P4)) (HK4.out _ w3.heap.size (by simp)).1).mono ?_
    rintro e w4 ⟨rfl, hb⟩
    rw [HE4.out]
    have hbb := (HK4.out (w3.setCell ⟨w0.heap.size, 3, none⟩ (.int .i64 r.which)) _ rfl).2.trans (hb.mono (HK4.out (w3.setCell ⟨w0.heap.size, 3, none⟩ (.int .i64 r.which)) _ rfl).2.size)
    have X4 : Hid (SupAt w4 w0.heap.size ⟨r.gen, r.journal, r.area, r.which, 0, 0, 0, 0⟩) := Y3.out.same hbb Y3.out.lt
    have Z4 : Hid (SupAt w4 w.heap.size Sup.zero) := Z3'.out.same hbb Z3'.out.lt
    have B4 : Hid (Below w.heap.size w w4) := B3'.out.trans (hbb.mono B3'.out.size)
    have c4 := X4.out.cells.2.2.2.2.1
    have f4 := X4.out.frozen 4
    have Y4 : Hid (SupAt (w4.setCell ⟨w0.heap.size, 4, none⟩ (.int .i64 r.len)) w0.heap.size ⟨r.gen, r.journal, r.area, r.which, r.len, 0, 0, 0⟩) := X4.out.set_len r.len
    have Z4' : Hid (SupAt (w4.setCell ⟨w0.heap.size, 4, none⟩ (.int .i64 r.len)) w.heap.size Sup.zero) := (Below.heap_setCell _ _ _ _ HNE.out).trans Z4.out
    have B4' : Hid (Below w.heap.size w (w4.setCell ⟨w0.heap.size, 4, none⟩ (.int .i64 r.len))) := B4.out.setCell (p := ⟨w0.heap.size, 4, none⟩) B0.out.size _
    clear hb hbb hx4 hc4 Y3 Z3' B3' Z4 B4
    go_wp2_with fail
    clear c4 f4 X4
    refine (refGet_octs5 _ P5 (Lib.bytesWorld (w4.setCell ⟨w0.heap.size, 4, none⟩ (.int .i64 r.len)) 5 (strN P5)) (HK5.out _ w4.heap.size (by simp)).1).mono ?_
    rintro e w5 ⟨rfl, hb⟩
    rw [HE5.out]
    have hbb := (HK5.out (w4.setCell ⟨w0.heap.size, 4, none⟩ (.int .i64 r.len)) _ rfl).2.trans (hb.mono (HK5.out (w4.setCell ⟨w0.heap.size, 4, none⟩ (.int .i64 r.len)) _ rfl).2.size)
    have X5 : Hid (SupAt w5 w0.heap.size ⟨r.gen, r.journal, r.area, r.which, r.len, 0, 0, 0⟩) := Y4.out.same hbb Y4.out.lt
    have Z5 : Hid (SupAt w5 w.heap.size Sup.zero) := Z4'.out.same hbb Z4'.out.lt
    have B5 : Hid (Below w.heap.size w w5) := B4'.out.trans (hbb.mono B4'.out.size)
    have c5 := X5.out.cells.2.2.2.2.2.1
    have f5 := X5.out.frozen 5
    have Y5 : Hid (SupAt (w5.setCell ⟨w0.heap.size, 5, none⟩ (.int .u32 r.sum)) w0.heap.size ⟨r.gen, r.journal, r.area, r.which, r.len, r.sum, 0, 0⟩) := X5.out.set_sum r.sum
    have Z5' : Hid (SupAt (w5.setCell ⟨w0.heap.size, 5, none⟩ (.int .u32 r.sum)) w.heap.size Sup.zero) := (Below.heap_setCell _ _ _ _ HNE.out).trans Z5.out
    have B5' : Hid (Below w.heap.size w (w5.setCell ⟨w0.heap.size, 5, none⟩ (.int .u32 r.sum))) := B5.out.setCell (p := ⟨w0.heap.size, 5, none⟩) B0.out.size _
    clear hb hbb hx5 hc5 Y4 Z4' B4' Z5 B5
    go_wp2_with fail
    clear c5 f5 X5
    refine (refGet_octs5 _ P6 (Lib.bytesWorld (w5.setCell ⟨w0.heap.size, 5, none⟩ (.int .u32 r.sum)) 5 (strN P6)) (HK6.out _ w5.heap.size (by simp)).1).mono ?_
    rintro e w6 ⟨rfl, hb⟩
    rw [HE6.out]
    have hbb := (HK6.out (w5.setCell ⟨w0.heap.size, 5, none⟩ (.int .u32 r.sum)) _ rfl).2.trans (hb.mono (HK6.out (w5.setCell ⟨w0.heap.size, 5, none⟩ (.int .u32 r.sum)) _ rfl).2.size)
    have X6 : Hid (SupAt w6 w0.heap.size ⟨r.gen, r.journal, r.area, r.which, r.len, r.sum, 0, 0⟩) := Y5.out.same hbb Y5.out.lt
    have Z6 : Hid (SupAt w6 w.heap.size Sup.zero) := Z5'.out.same hbb Z5'.out.lt
    have B6 : Hid (Below w.heap.size w w6) := B5'.out.trans (hbb.mono B5'.out.size)
    have c6 := X6.out.cells.2.2.2.2.2.2.1
    have f6 := X6.out.frozen 6
    have Y6 : Hid (SupAt (w6.setCell ⟨w0.heap.size, 6, none⟩ (.int .i64 r.epoch)) w0.heap.size ⟨r.gen, r.journal, r.area, r.which, r.len, r.sum, r.epoch, 0⟩) := X6.out.set_epoch r.epoch
    have Z6' : Hid (SupAt (w6.setCell ⟨w0.heap.size, 6, none⟩ (.int .i64 r.epoch)) w.heap.size Sup.zero) := (Below.heap_setCell _ _ _ _ HNE.out).trans Z6.out
    have B6' : Hid (Below w.heap.size w (w6.setCell ⟨w0.heap.size, 6, none⟩ (.int .i64 r.epoch))) := B6.out.setCell (p := ⟨w0.heap.size, 6, none⟩) B0.out.size _
    clear hb hbb hx6 hc6 Y5 Z5' B5' Z6 B6
    go_wp2_with fail
    clear c6 f6 X6
    refine (refGet_octs5 _ P7 (Lib.bytesWorld (w6.setCell ⟨w0.heap.size, 6, none⟩ (.int .i64 r.epoch)) 5 (strN P7)) (HK7.out _ w6.heap.size (by simp)).1).mono ?_
    rintro e w7 ⟨rfl, hb⟩
    rw [HE7.out]
    have hbb := (HK7.out (w6.setCell ⟨w0.heap.size, 6, none⟩ (.int .i64 r.epoch)) _ rfl).2.trans (hb.mono (HK7.out (w6.setCell ⟨w0.heap.size, 6, none⟩ (.int .i64 r.epoch)) _ rfl).2.size)
    have X7 : Hid (SupAt w7 w0.heap.size ⟨r.gen, r.journal, r.area, r.which, r.len, r.sum, r.epoch, 0⟩) := Y6.out.same hbb Y6.out.lt
    have Z7 : Hid (SupAt w7 w.heap.size Sup.zero) := Z6'.out.same hbb Z6'.out.lt
    have B7 : Hid (Below w.heap.size w w7) := B6'.out.trans (hbb.mono B6'.out.size)
    have c7 := X7.out.cells.2.2.2.2.2.2.2
    have f7 := X7.out.frozen 7
    have Y7 : Hid (SupAt (w7.setCell ⟨w0.heap.size, 7, none⟩ (.int .i64 r.start)) w0.heap.size ⟨r.gen, r.journal, r.area, r.which, r.len, r.sum, r.epoch, r.start⟩) := X7.out.set_start r.start
    have Z7' : Hid (SupAt (w7.setCell ⟨w0.heap.size, 7, none⟩ (.int .i64 r.start)) w.heap.size Sup.zero) := (Below.heap_setCell _ _ _ _ HNE.out).trans Z7.out
    have B7' : Hid (Below w.heap.size w (w7.setCell ⟨w0.heap.size, 7, none⟩ (.int .i64 r.start))) := B7.out.setCell (p := ⟨w0.heap.size, 7, none⟩) B0.out.size _
    clear hb hbb hx7 hc7 Y6 Z6' B6' Z7 B7
    obtain ⟨q0, q1, q2, q3, q4, q5, q6, q7⟩ := X7.out.cells
    have YR : Hid (SupAt (w7.setCell ⟨w0.heap.size, 7, none⟩ (.int .i64 r.start)) w0.heap.size r) := Y7.out
    go_wp2_with fail
    clear q0 q1 q2 q3 q4 q5 q6 q7 c7 f7 X7 Y7
    generalize w7.setCell ⟨w0.heap.size, 7, none⟩ (.int .i64 r.start) = V at YR Z7' B7' ⊢
    refine (refRight5 r HFit.out V).mono ?_
    rintro e w8 ⟨rfl, hb8⟩
    have YR8 : Hid (SupAt w8 w0.heap.size r) := YR.out.same hb8 YR.out.lt
    have Z8 : Hid (SupAt w8 w.heap.size Sup.zero) := Z7'.out.same hb8 Z7'.out.lt
    have B8 : Hid (Below w.heap.size w w8) := B7'.out.trans (hb8.mono B7'.out.size)
    clear hb8
    by_cases hok : okS r = true
    · rw [hok]
      obtain ⟨q0, q1, q2, q3, q4, q5, q6, q7⟩ := YR8.out.cells
      go_wp2_with fail
      clear q0 q1 q2 q3 q4 q5 q6 q7
      refine (refPut5 r HFit.out w8).mono ?_
      rintro e w9 ⟨rfl, hb9⟩
      have YR9 : Hid (SupAt w9 w0.heap.size r) := YR8.out.same hb9 YR8.out.lt
      have Z9 : Hid (SupAt w9 w.heap.size Sup.zero) := Z8.out.same hb9 Z8.out.lt
      have B9 : Hid (Below w.heap.size w w9) := B8.out.trans (hb9.mono B8.out.size)
      clear hb9
      have hq := heq.out
      by_cases hs : sect r = zs
      · have hd : decide (sect r = zs) = true := decide_eq_true hs
        rw [hd] at hq
        have HV : Hid (toldS zs = some r) := by unfold Hid; rw [HTO.out, HTB.out, hok, hd]; rfl
        clear hs hd
        obtain ⟨q0, q1, q2, q3, q4, q5, q6, q7⟩ := YR9.out.cells
        go_wp2_with ((with_reducible show wpList _ _ _ (Oper.mk _ (Op.store _ _ _) _ _ _ _ :: _) _ _); go_must (refine wpList_store_mid rfl 24 _ _ rfl w.heap.size 0 r.cl.toArray rfl rfl Z9.out.there Tryd.sizeS5 r.cl_one ?_))
        go_wp2
        exact bodyPost_ret (v := toldV (some r)) (results_cell2 rfl rfl rfl (sup_loadSet Z9.out r)) rfl ⟨by rw [HG.out, HV.out], below_setCells B9.out (Nat.le_refl _) _ _⟩
      · have hd : decide (sect r = zs) = false := decide_eq_false hs
        rw [hd] at hq
        have HV : Hid (toldS zs = none) := by unfold Hid; rw [HTO.out, HTB.out, hok, hd]; rfl
        clear hs hd
        go_wp2_with ((with_reducible show wpList _ _ _ (Oper.mk _ (Op.store _ _ _) _ _ _ _ :: _) _ _); go_must (refine wpList_store_mid rfl 24 _ _ rfl w.heap.size 0 Sup.zero.cl.toArray rfl rfl Z9.out.there Tryd.sizeS5 Sup.zero.cl_one ?_))
        go_wp2
        exact bodyPost_ret (v := toldV none) (results_cell2 rfl rfl rfl (sup_loadSet Z9.out Sup.zero)) rfl ⟨by rw [HG.out, HV.out], below_setCells B9.out (Nat.le_refl _) _ _⟩
    · have hok' : okS r = false := by simpa using hok
      rw [hok']
      have HV : Hid (toldS zs = none) := by unfold Hid; rw [HTO.out, HTB.out, hok']; rfl
      go_wp2_with ((with_reducible show wpList _ _ _ (Oper.mk _ (Op.store _ _ _) _ _ _ _ :: _) _ _); go_must (refine wpList_store_mid rfl 24 _ _ rfl w.heap.size 0 Sup.zero.cl.toArray rfl rfl Z8.out.there Tryd.sizeS5 Sup.zero.cl_one ?_))
      go_wp2
      exact bodyPost_ret (v := toldV none) (results_cell2 rfl rfl rfl (sup_loadSet Z8.out Sup.zero)) rfl ⟨by rw [HG.out, HV.out], below_setCells B8.out (Nat.le_refl _) _ _⟩
  · have HG : Hid (getS zs = none) := if_neg hn
    have hn' : ¬ (zs.length : Int) = 128 := by omega
    go_enter Tryd.func14, Tryd.ntmps14
    go_wp2_with ((with_reducible show wpList _ _ _ (Oper.mk _ (Op.store _ _ _) _ _ _ _ :: _) _ _); go_must (refine wpList_store_mid rfl 24 _ _ rfl w.heap.size 0 Sup.zero.cl.toArray rfl rfl W2.out.there Tryd.sizeS5 Sup.zero.cl_one ?_))
    go_wp2
    exact bodyPost_ret (v := toldV none) (results_cell2 rfl rfl rfl (sup_loadSet W2.out Sup.zero)) rfl ⟨by rw [HG.out], below_setCells W1.out (Nat.le_refl _) _ _⟩
end Go.Proofs.YtgbibhbmcbbbhaaDoor
