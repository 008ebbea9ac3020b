/- Contract of the program's 'Put' of a part. Written by mk_prog6.py. -/
import Derived.Test.YtndeknkfljnjoaaDoorWalkRight6
import Derived.Test.YtndeknkfljnjoaaDoorWalkSeal
import Derived.Deep.RegionHeld3
import Derived.Deep.DeepMust
namespace Go.Proofs.YtndeknkfljnjoaaDoor
open Go.RowKit
set_option linter.unusedVariables false

theorem Tryd.zero124 (w : World) : (zeroValue 50).run Tryd.prog w = .ok (.agg (u8s (zl 124)).toArray) w := by
  rw [← rep_u8s]; exact (zero_of_info (n := 124) (by kernel_rfl)).1 w
theorem Tryd.sizeU86 : (Tryd.prog.info? 5).map (·.size) = some 1 := by kernel_rfl
theorem row_same6 {w w' : World} {b B : Nat} {o : Obj} (h : w.heap[b]? = some o) (hb : Below B w w') (hB : b < B) : w'.heap[b]? = some o := (hb.block b hB).trans h

theorem put6_no (p : Part) (v : Value) (w : World) (hok : okP p = false) (ho : Octs w v p.data) : Calls Tryd.prog 8 #[pval p v] w fun e w' => e = .returned (.tuple #[.slice none 0 0, .int .i64 2]) ∧ Below w.heap.size w w' := by
  have HO : Hid (Octs w v p.data) := ho
  clear ho
  go_enter Tryd.func8, Tryd.ntmps8
  go_wp2_with fail
  refine (right6 p v _ (HO.out.alloc _)).mono ?_
  rintro e w1 ⟨rfl, hb1⟩
  have HB1 : Hid (Below w.heap.size w w1) := ((Below.refl _ _).alloc (Nat.le_refl _) _).trans (hb1.mono (by simp))
  clear hb1
  rw [hok]
  go_wp2
  go_ret2
  exact ⟨rfl, HB1.out⟩
theorem body6_splice (p : Part) (h : p.data.length ≤ 112) : splice (splice (zl 124) 0 (pre6 p)) 12 p.data = body6 p := by
  have h1 := pre6_length p
  unfold body6
  generalize pre6 p = F at *
  generalize p.data = G at *
  have e1 : splice (zl 124) 0 F = F ++ List.replicate 112 0 := by simp [splice, zl, h1]
  rw [e1]
  have e3 : F.take 12 = F := List.take_of_length_le (by omega)
  have e4 : (F ++ List.replicate 112 0).drop (12 + G.length) = List.replicate (112 - G.length) 0 := by
    rw [List.drop_append, List.drop_eq_nil_of_le (by omega), h1, List.drop_replicate, List.nil_append]
    congr 1; omega
  have e5 : (F ++ List.replicate 112 0).take 12 = F := by rw [List.take_append_of_le_length (by omega), e3]
  unfold splice
  rw [e5, e4]
  rfl
theorem pre6_eq (p : Part) (h : p.data.length ≤ 112) (m : Nat) (hm : headOct p.foot = m) (hs : m < 256) : octZ (m : Int) 1 ++ octZ p.epoch 4 ++ octZ p.number 4 ++ octZ p.index 2 ++ octZ (p.data.length : Int) 1 = pre6 p := by
  rw [octZ_one m hs]
  simp [pre6, hm]

set_option maxHeartbeats 800000 in
set_option maxRecDepth 20000 in
theorem put6_true (e n i : Int) (d : List Nat) (v : Value) (w : World) (hok : okP ⟨true, e, n, i, d⟩ = true) (ho : Octs w v d) (ht : Steps w) : Calls Tryd.prog 8 #[pval ⟨true, e, n, i, d⟩ v] w fun x w' => ∃ u, x = .returned (.tuple #[u, .int .i64 0]) ∧ Octs w' u (sect6 ⟨true, e, n, i, d⟩) ∧ Below w.heap.size w w' := by
  have HO : Hid (Octs w v d) := ho
  have HT : Hid (Steps w) := ht
  have HK : Hid (okP ⟨true, e, n, i, d⟩ = true) := hok
  have hd : d.length ≤ 112 := (okP_right.1 hok).data
  obtain ⟨a, cap, rfl⟩ := ho.shape
  obtain ⟨A2, hA2⟩ : ∃ A, A = octZ 70 1 := ⟨_, rfl⟩
  obtain ⟨A3, hA3⟩ : ∃ A, A = A2 ++ octZ e 4 := ⟨_, rfl⟩
  obtain ⟨A4, hA4⟩ : ∃ A, A = A3 ++ octZ n 4 := ⟨_, rfl⟩
  obtain ⟨A5, hA5⟩ : ∃ A, A = A4 ++ octZ i 2 := ⟨_, rfl⟩
  obtain ⟨A6, hA6⟩ : ∃ A, A = A5 ++ octZ d.length 1 := ⟨_, rfl⟩
  have HL1 : Hid (([] : List Nat).length = 0) := rfl
  have HL2 : Hid (A2.length = 1) := by unfold Hid; rw [hA2, octZ_length]
  have HL3 : Hid (A3.length = 5) := by unfold Hid; rw [hA3, List.length_append, octZ_length, HL2.out]
  have HL4 : Hid (A4.length = 9) := by unfold Hid; rw [hA4, List.length_append, octZ_length, HL3.out]
  have HL5 : Hid (A5.length = 11) := by unfold Hid; rw [hA5, List.length_append, octZ_length, HL4.out]
  have HL6 : Hid (A6.length = 12) := by unfold Hid; rw [hA6, List.length_append, octZ_length, HL5.out]
  have HE6 : Hid (A6 = pre6 ⟨true, e, n, i, d⟩) := by unfold Hid; rw [hA6, hA5, hA4, hA3, hA2]; exact pre6_eq ⟨true, e, n, i, d⟩ hd 70 rfl (by decide)
  have HA2 : Hid ([] ++ octZ 70 1 = A2) := by unfold Hid; rw [hA2]; rfl
  have HA3 : Hid (A2 ++ octZ e 4 = A3) := hA3.symm
  have HA4 : Hid (A3 ++ octZ n 4 = A4) := hA4.symm
  have HA5 : Hid (A4 ++ octZ i 2 = A5) := hA5.symm
  have HA6 : Hid (A5 ++ octZ d.length 1 = A6) := hA6.symm
  have hz124 := Tryd.zero124
  obtain ⟨Z2, hZ2⟩ : ∃ Z, Z = zl 124 := ⟨_, rfl⟩
  rw [← hZ2] at hz124
  have HZ2 : Hid (Z2 = zl 124) := hZ2
  clear ho ht hok hA2 hA3 hA4 hA5 hA6 hZ2
  go_enter Tryd.func8, Tryd.ntmps8
  go_wp2_with fail
  refine (right6 ⟨true, e, n, i, d⟩ _ _ (HO.out.alloc _)).mono ?_
  rintro x W ⟨rfl, hb⟩
  have F1 : Hid (PartAt W w.heap.size ⟨true, e, n, i, d⟩ (.slice a d.length cap)) := PartAt.same (heap_alloc_new w _) hb (by simp)
  have FB : Hid (Below w.heap.size w W) := ((Below.refl _ _).alloc (Nat.le_refl _) _).trans (hb.mono (by simp))
  have hx : w.heap.size < W.heap.size := F1.out.lt
  clear hb
  rw [HK.out]
  obtain ⟨c0, c1, c2, c3, c4⟩ := F1.out.cells
  have HD : Hid (∀ w', Below W.heap.size W w' → w'.cell? ⟨w.heap.size, 1, none⟩ = some (.int .i64 e) ∧ w'.cell? ⟨w.heap.size, 2, none⟩ = some (.int .i64 n) ∧ w'.cell? ⟨w.heap.size, 3, none⟩ = some (.int .i64 i) ∧ w'.cell? ⟨w.heap.size, 4, none⟩ = some (.slice a d.length cap)) := fun w' h => ⟨(h.cell (p := ⟨w.heap.size, 1, none⟩) hx).trans c1, (h.cell (p := ⟨w.heap.size, 2, none⟩) hx).trans c2, (h.cell (p := ⟨w.heap.size, 3, none⟩) hx).trans c3, (h.cell (p := ⟨w.heap.size, 4, none⟩) hx).trans c4⟩
  go_wp2_with fail
  clear c0 c1 c2 c3 c4
  go_region_held3 (fun w' => w'.cell? ⟨w.heap.size, 1, none⟩ = some (.int .i64 e) ∧ w'.cell? ⟨w.heap.size, 2, none⟩ = some (.int .i64 n) ∧ w'.cell? ⟨w.heap.size, 3, none⟩ = some (.int .i64 i) ∧ w'.cell? ⟨w.heap.size, 4, none⟩ = some (.slice a d.length cap)) (first | exact HD.out _ (Below.refl _ _).drew | exact HD.out _ HB6.out | exact HD.out _ HB5.out | exact HD.out _ HB4.out | exact HD.out _ HB3.out | exact HD.out _ HB2.out | exact HD.out _ HB1.out) (first
     | (go_at_call 21; refine (wnum_any HW5.out d.length 1 (by rw [HL5.out]; decide)).mono ?_; rintro e w6 ⟨rfl, hw6, hb6⟩
        rw [show cl 1 8 = 1 by decide, HA6.out] at hw6
        have HB6 : Hid (Below W.heap.size W w6) := HB5.out.trans hb6
        have HW6 : Hid (IsW W.heap.size w6 W.heap.size A6) := hw6
        clear hw6 hb6)
     | (go_at_call 21; refine (wnum_any HW4.out i 2 (by rw [HL4.out]; decide)).mono ?_; rintro e w5 ⟨rfl, hw5, hb5⟩
        rw [show cl 2 8 = 2 by decide, HA5.out] at hw5
        have HB5 : Hid (Below W.heap.size W w5) := HB4.out.trans hb5
        have HW5 : Hid (IsW W.heap.size w5 W.heap.size A5) := hw5
        clear hw5 hb5)
     | (go_at_call 21; refine (wnum_any HW3.out n 4 (by rw [HL3.out]; decide)).mono ?_; rintro e w4 ⟨rfl, hw4, hb4⟩
        rw [show cl 4 8 = 4 by decide, HA4.out] at hw4
        have HB4 : Hid (Below W.heap.size W w4) := HB3.out.trans hb4
        have HW4 : Hid (IsW W.heap.size w4 W.heap.size A4) := hw4
        clear hw4 hb4)
     | (go_at_call 21; refine (wnum_any HW2.out e 4 (by rw [HL2.out]; decide)).mono ?_; rintro e w3 ⟨rfl, hw3, hb3⟩
        rw [show cl 4 8 = 4 by decide, HA3.out] at hw3
        have HB3 : Hid (Below W.heap.size W w3) := HB2.out.trans hb3
        have HW3 : Hid (IsW W.heap.size w3 W.heap.size A3) := hw3
        clear hw3 hb3)
     | (go_at_call 21; refine (wnum_any HW1.out 70 1 (by rw [HL1.out]; decide)).mono ?_; rintro e w2 ⟨rfl, hw2, hb2⟩
        rw [show cl 1 8 = 1 by decide, HA2.out] at hw2
        have HB2 : Hid (Below W.heap.size W w2) := HB1.out.trans hb2
        have HW2 : Hid (IsW W.heap.size w2 W.heap.size A2) := hw2
        clear hw2 hb2)
     | (go_at_call 20; refine (write_new _).mono ?_; rintro e w1 ⟨rfl, hw1, hb1⟩
        have HB1 : Hid (Below W.heap.size W w1) := below_undrew hb1
        have HW1 : Hid (IsW W.heap.size w1 W.heap.size []) := hw1
        clear hb1 hw1))
  have FS6 : Hid (PartAt w6 w.heap.size ⟨true, e, n, i, d⟩ (.slice a d.length cap)) := F1.out.same HB6.out hx
  clear HD HW1 HW2 HW3 HW4 HW5 HB1 HB2 HB3 HB4 HB5
  go_wp2_with fail
  have HW7 : Hid (IsW W.heap.size (w6.alloc (.cells (u8s Z2).toArray 50)) W.heap.size A6) := by
    obtain ⟨u, hu⟩ := HW6.out
    exact ⟨u, hu.kept ((Below.refl _ _).alloc (Nat.le_refl _) _)⟩
  have HB7 : Hid (Below w6.heap.size w6 (w6.alloc (.cells (u8s Z2).toArray 50))) := (Below.refl _ _).alloc (Nat.le_refl _) _
  have HG7 : Hid ((w6.alloc (.cells (u8s Z2).toArray 50)).heap[w6.heap.size]? = some (.cells (u8s Z2).toArray 50 (0, 0))) := heap_alloc_new _ _
  generalize w6.alloc (.cells (u8s Z2).toArray 50) = W7 at HW7 HB7 HG7 ⊢
  have HZL : Hid (Z2.length = 124) := by unfold Hid; rw [HZ2.out, zl_length]
  go_region_law (first
    | (refine step_copy_octs (by rfl) _ _ 22 22 (by rfl) 5 Tryd.underlying22 Tryd.sizeU86 w6.heap.size 0 124 124 (by rfl) _ A6 (by rfl) HO8.out Z2 50 HG8.out (by rw [HL6.out]; decide) (by rw [HL6.out, HZL.out]; decide) w6.heap.size w6 HB8.out (Nat.le_refl _) ?_
       intro w9 HG9 HB9 HO9)
    | (go_simp; go_at_call 22; refine (wbytes_any HW7.out.drew (by rw [HL6.out]; decide)).mono ?_; rintro e w8 ⟨v8, rfl, ho8, hb8⟩
       have HO8 : Hid (Octs w8 v8 A6) := ho8
       have hb8' : Below W7.heap.size W7 w8 := below_undrew hb8
       have HB8 : Hid (Below w6.heap.size w6 w8) := HB7.out.trans (hb8'.mono HB7.out.size)
       have HG8 : Hid (w8.heap[w6.heap.size]? = some (.cells (u8s Z2).toArray 50 (0, 0))) := row_same6 HG7.out hb8' (lt_of_heap HG7.out)
       clear ho8 hb8 hb8'))
  all_goals
    have FS9 : Hid (PartAt w9 w.heap.size ⟨true, e, n, i, d⟩ (.slice a d.length cap)) := FS6.out.same HB9.out FS6.out.lt
    have FB9 : Hid (Below w.heap.size w w9) := (FB.out.trans (HB6.out.mono FB.out.size)).trans (HB9.out.mono (by have := FB.out.size; have := HB6.out.size; omega))
    have HO9' : Hid (Octs w9 (.slice a d.length cap) d) := HO.out.kept FB9.out
    have hw6 : w.heap.size ≤ w6.heap.size := by have := FB.out.size; have := HB6.out.size; omega
    obtain ⟨C1, hC1⟩ : ∃ C, C = splice Z2 0 A6 := ⟨_, rfl⟩
    rw [← hC1] at HG9
    have HC1 : Hid (C1 = splice (zl 124) 0 (pre6 ⟨true, e, n, i, d⟩)) := by unfold Hid; rw [hC1, HZ2.out, HE6.out]
    have HC1L : Hid (C1.length = 124) := by unfold Hid; rw [hC1, length_splice _ _ _ (by rw [HZL.out, HL6.out]; decide), HZL.out]
    clear hC1 HO9 HO8 HG8 HB8 HG7 HB7 HW7
    obtain ⟨c0, c1, c2, c3, c4⟩ := FS9.out.cells
    clear c0 c1 c2 c3
    go_wp2_with fail
    go_region_law (first
      | (refine step_copy_octs (by rfl) _ _ 22 22 (by rfl) 5 Tryd.underlying22 Tryd.sizeU86 w6.heap.size 12 112 112 (by rfl) _ d (by rfl) HO9'.out.drew C1 50 HG9.out hd (by rw [HC1L.out]; omega) w6.heap.size w9 (Below.refl _ _).drew (Nat.le_refl _) ?_
         intro w10 HG10 HB10 HO10))
    all_goals
      obtain ⟨Bd, hBd⟩ : ∃ B, B = splice C1 12 d := ⟨_, rfl⟩
      rw [← hBd] at HG10
      have HBd : Hid (Bd = body6 ⟨true, e, n, i, d⟩) := by unfold Hid; rw [hBd, HC1.out]; exact body6_splice ⟨true, e, n, i, d⟩ hd
      have HBL : Hid (Bd.length = 124) := by unfold Hid; rw [HBd.out, body6_length _ hd]
      have HBS : Hid (∀ z ∈ Bd, z < 256) := by unfold Hid; rw [HBd.out]; exact body6_small _ HO.out.small
      have HX : Hid (Bd ++ octN (crcSum Bd) = sect6 ⟨true, e, n, i, d⟩) := by unfold Hid; rw [HBd.out]; rfl
      have FB10 : Hid (Below w.heap.size w w10) := FB9.out.trans (HB10.out.mono hw6)
      have HT10 : Hid (Steps w10) := HT.out.below FB10.out
      clear hBd c4 HO10
      go_wp2_with fail
      refine (seal_octs _ Bd _ (octs_row0 HG10.out HBS.out HBL.out (by decide)) (by rw [HBL.out]; decide) HT10.out).mono ?_
      rintro x w13 ⟨a13, c13, rfl, ho13, hb13⟩
      rw [HX.out] at ho13
      have HO13 : Hid (Octs w13 _ (sect6 ⟨true, e, n, i, d⟩)) := ho13
      have HB13 : Hid (Below w.heap.size w w13) := FB10.out.trans (hb13.mono FB10.out.size)
      clear ho13 hb13
      go_wp2
      go_ret2
      exact ⟨_, rfl, HO13.out, HB13.out⟩

set_option maxHeartbeats 800000 in
set_option maxRecDepth 20000 in
theorem put6_false (e n i : Int) (d : List Nat) (v : Value) (w : World) (hok : okP ⟨false, e, n, i, d⟩ = true) (ho : Octs w v d) (ht : Steps w) : Calls Tryd.prog 8 #[pval ⟨false, e, n, i, d⟩ v] w fun x w' => ∃ u, x = .returned (.tuple #[u, .int .i64 0]) ∧ Octs w' u (sect6 ⟨false, e, n, i, d⟩) ∧ Below w.heap.size w w' := by
  have HO : Hid (Octs w v d) := ho
  have HT : Hid (Steps w) := ht
  have HK : Hid (okP ⟨false, e, n, i, d⟩ = true) := hok
  have hd : d.length ≤ 112 := (okP_right.1 hok).data
  obtain ⟨a, cap, rfl⟩ := ho.shape
  obtain ⟨A2, hA2⟩ : ∃ A, A = octZ 80 1 := ⟨_, rfl⟩
  obtain ⟨A3, hA3⟩ : ∃ A, A = A2 ++ octZ e 4 := ⟨_, rfl⟩
  obtain ⟨A4, hA4⟩ : ∃ A, A = A3 ++ octZ n 4 := ⟨_, rfl⟩
  obtain ⟨A5, hA5⟩ : ∃ A, A = A4 ++ octZ i 2 := ⟨_, rfl⟩
  obtain ⟨A6, hA6⟩ : ∃ A, A = A5 ++ octZ d.length 1 := ⟨_, rfl⟩
  have HL1 : Hid (([] : List Nat).length = 0) := rfl
  have HL2 : Hid (A2.length = 1) := by unfold Hid; rw [hA2, octZ_length]
  have HL3 : Hid (A3.length = 5) := by unfold Hid; rw [hA3, List.length_append, octZ_length, HL2.out]
  have HL4 : Hid (A4.length = 9) := by unfold Hid; rw [hA4, List.length_append, octZ_length, HL3.out]
  have HL5 : Hid (A5.length = 11) := by unfold Hid; rw [hA5, List.length_append, octZ_length, HL4.out]
  have HL6 : Hid (A6.length = 12) := by unfold Hid; rw [hA6, List.length_append, octZ_length, HL5.out]
  have HE6 : Hid (A6 = pre6 ⟨false, e, n, i, d⟩) := by unfold Hid; rw [hA6, hA5, hA4, hA3, hA2]; exact pre6_eq ⟨false, e, n, i, d⟩ hd 80 rfl (by decide)
  have HA2 : Hid ([] ++ octZ 80 1 = A2) := by unfold Hid; rw [hA2]; rfl
  have HA3 : Hid (A2 ++ octZ e 4 = A3) := hA3.symm
  have HA4 : Hid (A3 ++ octZ n 4 = A4) := hA4.symm
  have HA5 : Hid (A4 ++ octZ i 2 = A5) := hA5.symm
  have HA6 : Hid (A5 ++ octZ d.length 1 = A6) := hA6.symm
  have hz124 := Tryd.zero124
  obtain ⟨Z2, hZ2⟩ : ∃ Z, Z = zl 124 := ⟨_, rfl⟩
  rw [← hZ2] at hz124
  have HZ2 : Hid (Z2 = zl 124) := hZ2
  clear ho ht hok hA2 hA3 hA4 hA5 hA6 hZ2
  go_enter Tryd.func8, Tryd.ntmps8
  go_wp2_with fail
  refine (right6 ⟨false, e, n, i, d⟩ _ _ (HO.out.alloc _)).mono ?_
  rintro x W ⟨rfl, hb⟩
  have F1 : Hid (PartAt W w.heap.size ⟨false, e, n, i, d⟩ (.slice a d.length cap)) := PartAt.same (heap_alloc_new w _) hb (by simp)
  have FB : Hid (Below w.heap.size w W) := ((Below.refl _ _).alloc (Nat.le_refl _) _).trans (hb.mono (by simp))
  have hx : w.heap.size < W.heap.size := F1.out.lt
  clear hb
  rw [HK.out]
  obtain ⟨c0, c1, c2, c3, c4⟩ := F1.out.cells
  have HD : Hid (∀ w', Below W.heap.size W w' → w'.cell? ⟨w.heap.size, 1, none⟩ = some (.int .i64 e) ∧ w'.cell? ⟨w.heap.size, 2, none⟩ = some (.int .i64 n) ∧ w'.cell? ⟨w.heap.size, 3, none⟩ = some (.int .i64 i) ∧ w'.cell? ⟨w.heap.size, 4, none⟩ = some (.slice a d.length cap)) := fun w' h => ⟨(h.cell (p := ⟨w.heap.size, 1, none⟩) hx).trans c1, (h.cell (p := ⟨w.heap.size, 2, none⟩) hx).trans c2, (h.cell (p := ⟨w.heap.size, 3, none⟩) hx).trans c3, (h.cell (p := ⟨w.heap.size, 4, none⟩) hx).trans c4⟩
  go_wp2_with fail
  clear c0 c1 c2 c3 c4
  go_region_held3 (fun w' => w'.cell? ⟨w.heap.size, 1, none⟩ = some (.int .i64 e) ∧ w'.cell? ⟨w.heap.size, 2, none⟩ = some (.int .i64 n) ∧ w'.cell? ⟨w.heap.size, 3, none⟩ = some (.int .i64 i) ∧ w'.cell? ⟨w.heap.size, 4, none⟩ = some (.slice a d.length cap)) (first | exact HD.out _ (Below.refl _ _).drew | exact HD.out _ HB6.out | exact HD.out _ HB5.out | exact HD.out _ HB4.out | exact HD.out _ HB3.out | exact HD.out _ HB2.out | exact HD.out _ HB1.out) (first
     | (go_at_call 21; refine (wnum_any HW5.out d.length 1 (by rw [HL5.out]; decide)).mono ?_; rintro e w6 ⟨rfl, hw6, hb6⟩
        rw [show cl 1 8 = 1 by decide, HA6.out] at hw6
        have HB6 : Hid (Below W.heap.size W w6) := HB5.out.trans hb6
        have HW6 : Hid (IsW W.heap.size w6 W.heap.size A6) := hw6
        clear hw6 hb6)
     | (go_at_call 21; refine (wnum_any HW4.out i 2 (by rw [HL4.out]; decide)).mono ?_; rintro e w5 ⟨rfl, hw5, hb5⟩
        rw [show cl 2 8 = 2 by decide, HA5.out] at hw5
        have HB5 : Hid (Below W.heap.size W w5) := HB4.out.trans hb5
        have HW5 : Hid (IsW W.heap.size w5 W.heap.size A5) := hw5
        clear hw5 hb5)
     | (go_at_call 21; refine (wnum_any HW3.out n 4 (by rw [HL3.out]; decide)).mono ?_; rintro e w4 ⟨rfl, hw4, hb4⟩
        rw [show cl 4 8 = 4 by decide, HA4.out] at hw4
        have HB4 : Hid (Below W.heap.size W w4) := HB3.out.trans hb4
        have HW4 : Hid (IsW W.heap.size w4 W.heap.size A4) := hw4
        clear hw4 hb4)
     | (go_at_call 21; refine (wnum_any HW2.out e 4 (by rw [HL2.out]; decide)).mono ?_; rintro e w3 ⟨rfl, hw3, hb3⟩
        rw [show cl 4 8 = 4 by decide, HA3.out] at hw3
        have HB3 : Hid (Below W.heap.size W w3) := HB2.out.trans hb3
        have HW3 : Hid (IsW W.heap.size w3 W.heap.size A3) := hw3
        clear hw3 hb3)
     | (go_at_call 21; refine (wnum_any HW1.out 80 1 (by rw [HL1.out]; decide)).mono ?_; rintro e w2 ⟨rfl, hw2, hb2⟩
        rw [show cl 1 8 = 1 by decide, HA2.out] at hw2
        have HB2 : Hid (Below W.heap.size W w2) := HB1.out.trans hb2
        have HW2 : Hid (IsW W.heap.size w2 W.heap.size A2) := hw2
        clear hw2 hb2)
     | (go_at_call 20; refine (write_new _).mono ?_; rintro e w1 ⟨rfl, hw1, hb1⟩
        have HB1 : Hid (Below W.heap.size W w1) := below_undrew hb1
        have HW1 : Hid (IsW W.heap.size w1 W.heap.size []) := hw1
        clear hb1 hw1))
  have FS6 : Hid (PartAt w6 w.heap.size ⟨false, e, n, i, d⟩ (.slice a d.length cap)) := F1.out.same HB6.out hx
  clear HD HW1 HW2 HW3 HW4 HW5 HB1 HB2 HB3 HB4 HB5
  go_wp2_with fail
  have HW7 : Hid (IsW W.heap.size (w6.alloc (.cells (u8s Z2).toArray 50)) W.heap.size A6) := by
    obtain ⟨u, hu⟩ := HW6.out
    exact ⟨u, hu.kept ((Below.refl _ _).alloc (Nat.le_refl _) _)⟩
  have HB7 : Hid (Below w6.heap.size w6 (w6.alloc (.cells (u8s Z2).toArray 50))) := (Below.refl _ _).alloc (Nat.le_refl _) _
  have HG7 : Hid ((w6.alloc (.cells (u8s Z2).toArray 50)).heap[w6.heap.size]? = some (.cells (u8s Z2).toArray 50 (0, 0))) := heap_alloc_new _ _
  generalize w6.alloc (.cells (u8s Z2).toArray 50) = W7 at HW7 HB7 HG7 ⊢
  have HZL : Hid (Z2.length = 124) := by unfold Hid; rw [HZ2.out, zl_length]
  go_region_law (first
    | (refine step_copy_octs (by rfl) _ _ 22 22 (by rfl) 5 Tryd.underlying22 Tryd.sizeU86 w6.heap.size 0 124 124 (by rfl) _ A6 (by rfl) HO8.out Z2 50 HG8.out (by rw [HL6.out]; decide) (by rw [HL6.out, HZL.out]; decide) w6.heap.size w6 HB8.out (Nat.le_refl _) ?_
       intro w9 HG9 HB9 HO9)
    | (go_simp; go_at_call 22; refine (wbytes_any HW7.out.drew (by rw [HL6.out]; decide)).mono ?_; rintro e w8 ⟨v8, rfl, ho8, hb8⟩
       have HO8 : Hid (Octs w8 v8 A6) := ho8
       have hb8' : Below W7.heap.size W7 w8 := below_undrew hb8
       have HB8 : Hid (Below w6.heap.size w6 w8) := HB7.out.trans (hb8'.mono HB7.out.size)
       have HG8 : Hid (w8.heap[w6.heap.size]? = some (.cells (u8s Z2).toArray 50 (0, 0))) := row_same6 HG7.out hb8' (lt_of_heap HG7.out)
       clear ho8 hb8 hb8'))
  all_goals
    have FS9 : Hid (PartAt w9 w.heap.size ⟨false, e, n, i, d⟩ (.slice a d.length cap)) := FS6.out.same HB9.out FS6.out.lt
    have FB9 : Hid (Below w.heap.size w w9) := (FB.out.trans (HB6.out.mono FB.out.size)).trans (HB9.out.mono (by have := FB.out.size; have := HB6.out.size; omega))
    have HO9' : Hid (Octs w9 (.slice a d.length cap) d) := HO.out.kept FB9.out
    have hw6 : w.heap.size ≤ w6.heap.size := by have := FB.out.size; have := HB6.out.size; omega
    obtain ⟨C1, hC1⟩ : ∃ C, C = splice Z2 0 A6 := ⟨_, rfl⟩
    rw [← hC1] at HG9
    have HC1 : Hid (C1 = splice (zl 124) 0 (pre6 ⟨false, e, n, i, d⟩)) := by unfold Hid; rw [hC1, HZ2.out, HE6.out]
    have HC1L : Hid (C1.length = 124) := by unfold Hid; rw [hC1, length_splice _ _ _ (by rw [HZL.out, HL6.out]; decide), HZL.out]
    clear hC1 HO9 HO8 HG8 HB8 HG7 HB7 HW7
    obtain ⟨c0, c1, c2, c3, c4⟩ := FS9.out.cells
    clear c0 c1 c2 c3
    go_wp2_with fail
    go_region_law (first
      | (refine step_copy_octs (by rfl) _ _ 22 22 (by rfl) 5 Tryd.underlying22 Tryd.sizeU86 w6.heap.size 12 112 112 (by rfl) _ d (by rfl) HO9'.out.drew C1 50 HG9.out hd (by rw [HC1L.out]; omega) w6.heap.size w9 (Below.refl _ _).drew (Nat.le_refl _) ?_
         intro w10 HG10 HB10 HO10))
    all_goals
      obtain ⟨Bd, hBd⟩ : ∃ B, B = splice C1 12 d := ⟨_, rfl⟩
      rw [← hBd] at HG10
      have HBd : Hid (Bd = body6 ⟨false, e, n, i, d⟩) := by unfold Hid; rw [hBd, HC1.out]; exact body6_splice ⟨false, e, n, i, d⟩ hd
      have HBL : Hid (Bd.length = 124) := by unfold Hid; rw [HBd.out, body6_length _ hd]
      have HBS : Hid (∀ z ∈ Bd, z < 256) := by unfold Hid; rw [HBd.out]; exact body6_small _ HO.out.small
      have HX : Hid (Bd ++ octN (crcSum Bd) = sect6 ⟨false, e, n, i, d⟩) := by unfold Hid; rw [HBd.out]; rfl
      have FB10 : Hid (Below w.heap.size w w10) := FB9.out.trans (HB10.out.mono hw6)
      have HT10 : Hid (Steps w10) := HT.out.below FB10.out
      clear hBd c4 HO10
      go_wp2_with fail
      refine (seal_octs _ Bd _ (octs_row0 HG10.out HBS.out HBL.out (by decide)) (by rw [HBL.out]; decide) HT10.out).mono ?_
      rintro x w13 ⟨a13, c13, rfl, ho13, hb13⟩
      rw [HX.out] at ho13
      have HO13 : Hid (Octs w13 _ (sect6 ⟨false, e, n, i, d⟩)) := ho13
      have HB13 : Hid (Below w.heap.size w w13) := FB10.out.trans (hb13.mono FB10.out.size)
      clear ho13 hb13
      go_wp2
      go_ret2
      exact ⟨_, rfl, HO13.out, HB13.out⟩

theorem put6_ok (p : Part) (v : Value) (w : World) (hok : okP p = true) (ho : Octs w v p.data) (ht : Steps w) : Calls Tryd.prog 8 #[pval p v] w fun x w' => ∃ u, x = .returned (.tuple #[u, .int .i64 0]) ∧ Octs w' u (sect6 p) ∧ Below w.heap.size w w' := by
  obtain ⟨f, e, n, i, d⟩ := p
  cases f
  · exact put6_false e n i d v w hok ho ht
  · exact put6_true e n i d v w hok ho ht
end Go.Proofs.YtndeknkfljnjoaaDoor
