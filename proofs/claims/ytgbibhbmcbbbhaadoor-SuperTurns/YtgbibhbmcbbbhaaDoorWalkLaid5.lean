/- Contract of 'laid'. -/
import Derived.Test.YtgbibhbmcbbbhaaDoorWalkRight5
import Derived.Test.YtgbibhbmcbbbhaaDoorCopy5
import Derived.Deep.RegionHeld3
import Derived.Deep.DeepMust
namespace Go.Proofs.YtgbibhbmcbbbhaaDoor
open Go.RowKit
set_option linter.unusedVariables false

theorem Tryd.zero43 (w : World) : (zeroValue 43).run Tryd.prog w = .ok (.agg (u8s (zl 128)).toArray) w := by
  rw [← rep_u8s]; exact (zero_of_info (n := 128) (by kernel_rfl)).1 w
theorem Tryd.size43 : (Tryd.prog.info? 43).map (·.size) = some 128 := by kernel_rfl
theorem Tryd.zero60 (w : World) : (zeroValue 60).run Tryd.prog w = .ok (.agg (u8s (zl 124)).toArray) w := by
  rw [← rep_u8s]; exact (zero_of_info (n := 124) (by kernel_rfl)).1 w
theorem Tryd.sizeInt5 : (Tryd.prog.info? 3).map (·.size) = some 1 := by kernel_rfl
theorem Tryd.sizeU85 : (Tryd.prog.info? 5).map (·.size) = some 1 := by kernel_rfl

/-- The eight cells of a superblock at block b. -/
def SupAt (w : World) (b : Nat) (s : Sup) : Prop := w.heap[b]? = some (.cells #[.int .i64 s.gen, .int .i64 s.journal, .int .i64 s.area, .int .i64 s.which, .int .i64 s.len, .int .u32 s.sum, .int .i64 s.epoch, .int .i64 s.start] 24 (0, 0))
theorem SupAt.cells {w : World} {b : Nat} {s : Sup} (h : SupAt w b s) : w.cell? ⟨b, 0, none⟩ = some (.int .i64 s.gen) ∧ w.cell? ⟨b, 1, none⟩ = some (.int .i64 s.journal) ∧ w.cell? ⟨b, 2, none⟩ = some (.int .i64 s.area) ∧ w.cell? ⟨b, 3, none⟩ = some (.int .i64 s.which) ∧
    w.cell? ⟨b, 4, none⟩ = some (.int .i64 s.len) ∧ w.cell? ⟨b, 5, none⟩ = some (.int .u32 s.sum) ∧ w.cell? ⟨b, 6, none⟩ = some (.int .i64 s.epoch) ∧ w.cell? ⟨b, 7, none⟩ = some (.int .i64 s.start) := by
  refine ⟨?_, ?_, ?_, ?_, ?_, ?_, ?_, ?_⟩ <;> rw [cell_of_row _ _ _ _ _ _ h] <;> rfl
theorem SupAt.same {w w' : World} {b B : Nat} {s : Sup} (h : SupAt w b s) (hb : Below B w w') (hB : b < B) : SupAt w' b s := (hb.block b hB).trans h
theorem SupAt.lt {w : World} {b : Nat} {s : Sup} (h : SupAt w b s) : b < w.heap.size := lt_of_heap h
theorem SupAt.there {w : World} {b : Nat} {s : Sup} (h : SupAt w b s) : w.there b 0 8 := by
  have := there_row' (C := [.int .i64 s.gen, .int .i64 s.journal, .int .i64 s.area, .int .i64 s.which, .int .i64 s.len, .int .u32 s.sum, .int .i64 s.epoch, .int .i64 s.start]) (n := 8) (t := 24) h rfl
  exact this
theorem SupAt.frozen {w : World} {b : Nat} {s : Sup} (h : SupAt w b s) (i : Nat) : w.frozen? ⟨b, i, none⟩ = false := by
  simp [World.frozen?, show w.heap[b]? = _ from h]
theorem Tryd.sizeS5 : (Tryd.prog.info? 24).map (·.size) = some 8 := by kernel_rfl
def Sup.cl (s : Sup) : List Value := [.int .i64 s.gen, .int .i64 s.journal, .int .i64 s.area, .int .i64 s.which, .int .i64 s.len, .int .u32 s.sum, .int .i64 s.epoch, .int .i64 s.start]
theorem Sup.cl_one (s : Sup) : s.cl.toArray.all (·.oneCell') = true := all_oneCell_toArray (by intro v hv; simp [Sup.cl] at hv; rcases hv with rfl | rfl | rfl | rfl | rfl | rfl | rfl | rfl <;> rfl)
theorem sup_load {w : World} {b : Nat} {s : Sup} (h : SupAt w b s) : (loadVar 24 ⟨b, 0, none⟩).run Tryd.prog w = .ok (sval s) w :=
  run_loadVar_mid (P := Tryd.prog) w b 0 24 s.cl _ (range_row (t := 24) h) Tryd.underlying24 rfl Tryd.sizeS5
theorem sup_loadSet {w : World} {b : Nat} {s : Sup} (h : SupAt w b s) (s' : Sup) : (loadVar 24 ⟨b, 0, none⟩).run Tryd.prog (w.setCells b 0 s'.cl) = .ok (sval s') (w.setCells b 0 s'.cl) :=
  run_loadVar_mid (P := Tryd.prog) _ b 0 24 s'.cl _ (World.rangeAt_setCells_same w b 0 s'.cl h.there) Tryd.underlying24 rfl Tryd.sizeS5
theorem row_setCells {t : TypeId} {fr : Nat × Nat} (b : Nat) : ∀ (vs pre old : List Value) (w : World), w.heap[b]? = some (.cells (pre ++ old).toArray t fr) → old.length = vs.length → (w.setCells b pre.length vs).heap[b]? = some (.cells (pre ++ vs).toArray t fr)
  | [], pre, old, w, h, hl => by
    obtain rfl : old = [] := List.eq_nil_of_length_eq_zero hl
    exact h
  | v :: vs, pre, [], w, h, hl => by simp at hl
  | v :: vs, pre, o :: old, w, h, hl => by
    have h1 := heap_set_row h pre.length v
    have e : (pre ++ o :: old).toArray.setIfInBounds pre.length v = ((pre ++ [v]) ++ old).toArray := by simp
    rw [e] at h1
    have := row_setCells b vs (pre ++ [v]) old (w.setCell ⟨b, pre.length, none⟩ v) h1 (by simpa using hl)
    rw [List.length_append, List.append_assoc] at this
    exact this
theorem sup_set {w : World} {b : Nat} {s : Sup} (h : SupAt w b s) (s' : Sup) : SupAt (w.setCells b 0 s'.cl) b s' := row_setCells b s'.cl [] s.cl w h rfl
theorem row_same {w w' : World} {b B : Nat} {o : Obj} (h : w.heap[b]? = some o) (hb : Below B w w') (hB : b < B) : w'.heap[b]? = some o := (hb.block b hB).trans h

def numF (n : Int) : List Nat := octZ n 4
theorem fieldsN_eq (s : Sup) : fieldsN s = octZ s.gen 8 ++ (numF s.journal ++ (numF s.area ++ (numF s.which ++ (numF s.len ++ (numF s.sum ++ (numF s.epoch ++ numF s.start)))))) := by
  simp [fieldsN, numsS, numF]

/-- The octets of the first fields. -/
def fldK (s : Sup) (k : Nat) : List Nat := octZ s.gen 8 ++ ((numsS s).take k).flatMap numF
theorem fldK_zero (s : Sup) : fldK s 0 = octZ s.gen 8 := by simp [fldK]
theorem fldK_succ (s : Sup) (k : Nat) (n : Int) (h : (numsS s)[k]? = some n) : fldK s (k + 1) = fldK s k ++ octZ n 4 := by
  unfold fldK; rw [List.take_add_one, h]; simp [numF]
theorem fldK_len (s : Sup) (k : Nat) (hk : k ≤ 7) : (fldK s k).length ≤ 100000 := by
  have h : (((numsS s).take k).flatMap numF).length = 4 * ((numsS s).take k).length := by
    generalize (numsS s).take k = l
    induction l with
    | nil => rfl
    | cons a r ih => simp only [List.flatMap_cons, List.length_append, ih, List.length_cons, numF, octZ_length]; omega
  unfold fldK
  rw [List.length_append, h, octZ_length, List.length_take]; omega
theorem fldK_all (s : Sup) : fldK s 7 = fieldsN s := rfl
theorem numsS_at (s : Sup) (k : Nat) (n : Int) (hn : (numsS s)[k]? = some n) : (#[Value.int .i64 s.journal, .int .i64 s.area, .int .i64 s.which, .int .i64 s.len, .int .i64 s.sum, .int .i64 s.epoch, .int .i64 s.start])[k]? = some (.int .i64 n) := by
  have : ((numsS s).map (Value.int .i64))[k]? = some (.int .i64 n) := by rw [List.getElem?_map, hn]; rfl
  simpa [numsS] using this
theorem body_splice (s : Sup) : splice (splice (splice (zl 124) 0 [77, 79, 84, 72]) 4 (fieldsN s)) 116 (octZ s.gen 8) = body s := by
  have h1 := fieldsN_length s
  have h2 := octZ_length s.gen 8
  unfold body
  generalize fieldsN s = F at *
  generalize octZ s.gen 8 = G at *
  have e1 : splice (zl 124) 0 [77, 79, 84, 72] = [77, 79, 84, 72] ++ List.replicate 120 0 := by simp [splice, zl]
  have e2 : splice ([77, 79, 84, 72] ++ List.replicate 120 0) 4 F = [77, 79, 84, 72] ++ (F ++ List.replicate 84 0) := by
    simp only [splice, h1]
    rfl
  rw [e1, e2]
  have e3 : F.take 112 = F := List.take_of_length_le (by omega)
  unfold splice
  rw [h2, ← List.append_assoc [77, 79, 84, 72], List.take_append, List.drop_append]
  simp [h1, e3]
theorem octs_moth : octsOf ⟨#[77, 79, 84, 72]⟩ = [77, 79, 84, 72] := by decide +kernel
theorem splice_full (a b : List Nat) (h : a.length = b.length) : splice a 0 b = b := by
  simp [splice, ← h]

set_option maxHeartbeats 800000 in
set_option maxRecDepth 20000 in
theorem laid5 (s : Sup) (hf : s.Fits) (w : World) (ht : Steps w) : Calls Tryd.prog 20 #[sval s] w fun e w' => e = .returned (.agg (u8s (sect s)).toArray) ∧ Below w.heap.size w w' := by
  have HT : Hid (Steps w) := ht
  have hsum := hf.sum
  have eu : IntKind.i64.wrap s.sum = s.sum := by rw [IntKind.wrap_i64]; omega
  clear ht hf
  have hz43 := Tryd.zero43
  have hz60 := Tryd.zero60
  obtain ⟨Z1, hZ1⟩ : ∃ Z, Z = zl 128 := ⟨_, rfl⟩
  obtain ⟨Z2, hZ2⟩ : ∃ Z, Z = zl 124 := ⟨_, rfl⟩
  rw [← hZ1] at hz43
  rw [← hZ2] at hz60
  have HZ1 : Hid (Z1 = zl 128) := hZ1
  have HZ2 : Hid (Z2 = zl 124) := hZ2
  clear hZ1 hZ2
  go_enter Tryd.func20, Tryd.ntmps20
  go_wp2_with fail
  obtain ⟨W, hW⟩ : ∃ W, W = (w.alloc (.cells #[.int .i64 s.gen, .int .i64 s.journal, .int .i64 s.area, .int .i64 s.which, .int .i64 s.len, .int .u32 s.sum, .int .i64 s.epoch, .int .i64 s.start] 24)).alloc (.cells (u8s Z1).toArray 43) := ⟨_, rfl⟩
  rw [← hW]
  have FS : Hid (SupAt W w.heap.size s) := by
    subst hW
    exact SupAt.same (B := w.heap.size + 1) (heap_alloc_new w _) ((Below.refl _ _).alloc (by simp) _) (by omega)
  have FR : Hid (W.heap[w.heap.size + 1]? = some (.cells (u8s Z1).toArray 43 (0, 0))) := by
    subst hW
    have := heap_alloc_new (w.alloc (.cells #[.int .i64 s.gen, .int .i64 s.journal, .int .i64 s.area, .int .i64 s.which, .int .i64 s.len, .int .u32 s.sum, .int .i64 s.epoch, .int .i64 s.start] 24)) (.cells (u8s Z1).toArray 43)
    rwa [show (w.alloc (.cells #[.int .i64 s.gen, .int .i64 s.journal, .int .i64 s.area, .int .i64 s.which, .int .i64 s.len, .int .u32 s.sum, .int .i64 s.epoch, .int .i64 s.start] 24)).heap.size = w.heap.size + 1 by simp] at this
  have FB : Hid (Below w.heap.size w W) := by
    subst hW
    exact ((Below.refl _ _).alloc (Nat.le_refl _) _).alloc (by simp) _
  have FSZ : Hid (W.heap.size = w.heap.size + 2) := by unfold Hid; subst hW; simp
  clear hW
  have c0 := FS.out.cells.1
  have HD : Hid (∀ w', Below W.heap.size W w' → w'.cell? ⟨w.heap.size, 0, none⟩ = some (.int .i64 s.gen)) := fun w' h => (h.cell (p := ⟨w.heap.size, 0, none⟩) (by have := FSZ.out; show w.heap.size < _; omega)).trans c0
  go_region_held3 (fun w' => w'.cell? ⟨w.heap.size, 0, none⟩ = some (.int .i64 s.gen)) (first | exact HD.out _ (Below.refl _ _).drew | exact HD.out _ HB1.out | exact HD.out _ HB2.out) (first
     | (go_at_call 30; refine (write_new _).mono ?_; rintro e w1 ⟨rfl, hw1, hb1⟩
        have HB1 : Hid (Below W.heap.size W w1) := below_undrew hb1
        have HW1 : Hid (IsW W.heap.size w1 W.heap.size []) := hw1
        clear hb1 hw1)
     | (go_at_call 31; refine (wnum_any HW1.out s.gen 8 (by simp)).mono ?_; rintro e w2 ⟨rfl, hw2, hb2⟩
        rw [show cl 8 8 = 8 by decide, List.nil_append] at hw2
        have HB2 : Hid (Below W.heap.size W w2) := HB1.out.trans hb2
        have HW2 : Hid (IsW W.heap.size w2 W.heap.size (octZ s.gen 8)) := hw2
        clear hw2 hb2))
  have FS2 : Hid (SupAt w2 w.heap.size s) := FS.out.same HB2.out (by have := FSZ.out; omega)
  clear c0 HD HW1 HB1
  obtain ⟨k0, k1, k2, k3, k4, k5, k6, k7⟩ := FS2.out.cells
  go_wp2_with fail
  clear k0 k1 k2 k3 k4 k5 k6 k7
  go_loopw [28] (fun i wr => ∃ k : Nat, k ≤ 7 ∧ i = .int .i64 k ∧ Hid (IsW W.heap.size wr W.heap.size (fldK s k)) ∧ Hid (Below W.heap.size W wr)) (fun i _ => 7 - (intOf i).toNat)
  case atStart => exact ⟨0, by omega, rfl, by rw [fldK_zero]; exact HW2.out, HB2.out⟩
  case round =>
    obtain ⟨k, hk, rfl, HW3, HB3⟩ := hrel
    by_cases h7 : k < 7
    · have hn7 : k < (numsS s).length := h7
      obtain ⟨n, hn⟩ : ∃ n, (numsS s)[k]? = some n := ⟨_, List.getElem?_eq_getElem hn7⟩
      have hidx := run_index_one (P := Tryd.prog) wr (t := 59) #[.int .i64 s.journal, .int .i64 s.area, .int .i64 s.which, .int .i64 s.len, .int .i64 s.sum, .int .i64 s.epoch, .int .i64 s.start] k (.int .i64 n) Tryd.underlying59 Tryd.underlying3 Tryd.sizeInt5 h7 (numsS_at s k n hn)
      have HN : Hid ((numsS s)[k]? = some n) := hn
      clear hn hn7
      go_wp2_with fail
      refine (wnum_any HW3.out n 4 (fldK_len s k hk)).mono ?_
      rintro e w3 ⟨rfl, hw3, hb3⟩
      rw [show cl 4 8 = 4 by decide, ← fldK_succ s k n HN.out] at hw3
      have HW4 : Hid (IsW W.heap.size w3 W.heap.size (fldK s (k + 1))) := hw3
      have HB4 : Hid (Below W.heap.size W w3) := HB3.out.trans hb3
      clear hw3 hb3 hidx
      go_wp2
      go_roundw
      case rel => exact ⟨k + 1, by omega, by go_num, HW4.out, HB4.out⟩
      case measure => simp [intOf]; omega
    · obtain rfl : k = 7 := by omega
      rw [fldK_all] at HW3
      have hm := octs_moth
      go_wp2_with (with_reducible show wpList _ _ _ (Oper.mk _ (Op.call ⟨Callee.builtin Builtin.copy, _, _⟩) _ _ _ _ :: _) _ _; go_must (refine wpList_copy_str rfl _ _ 26 9 rfl 5 Tryd.underlying26 Tryd.sizeU85 wr.heap.size 0 124 124 rfl _ rfl Z2 60 (heap_alloc_new _ _) ?a1 ?a2 wr.heap.size wr ((Below.refl _ _).alloc (Nat.le_refl _) _) (Nat.le_refl _) ?_))
      case a1 => decide
      case a2 => rw [HZ2.out, zl_length]; decide
      intro w5 HG5 HB5
      have hsz5 : wr.heap.size ≤ w5.heap.size := HB5.out.size
      have hlt5 : wr.heap.size < w5.heap.size := lt_of_heap HG5.out
      obtain ⟨C1, hC1⟩ : ∃ C, C = splice Z2 0 [77, 79, 84, 72] := ⟨_, rfl⟩
      rw [← hC1] at HG5
      have HC1 : Hid (C1 = splice (zl 124) 0 [77, 79, 84, 72]) := by unfold Hid; rw [hC1, HZ2.out]
      have HC1L : Hid (C1.length = 124) := by unfold Hid; rw [HC1.out, length_splice _ _ _ (by rw [zl_length]; decide), zl_length]
      obtain ⟨F, hF⟩ : ∃ F, F = fieldsN s := ⟨_, rfl⟩
      rw [← hF] at HW3
      have HF : Hid (F = fieldsN s) := hF
      have HFL : Hid (F.length = 36) := by unfold Hid; rw [hF, fieldsN_length]
      have HW5 : Hid (IsW W.heap.size w5 W.heap.size F) := by
        obtain ⟨v, hv⟩ := HW3.out
        exact ⟨v, hv.kept HB5.out⟩
      clear hC1 hF hm HZ2
      go_wp2_with fail
      go_region_law (first
        | (refine step_copy_octs (by rfl) _ _ 26 26 (by rfl) 5 Tryd.underlying26 Tryd.sizeU85 wr.heap.size 4 120 120 (by rfl) _ F (by rfl) HO6.out C1 60 HG6.out (by rw [HFL.out]; decide) (by rw [HFL.out, HC1L.out]; decide) wr.heap.size wr HB6.out (Nat.le_refl _) ?_
           intro w7 HG7 HB7 HO7)
        | (go_simp; go_at_call 32; refine (wbytes_any HW5.out.drew (by rw [HFL.out]; decide)).mono ?_; rintro e w6 ⟨v6, rfl, ho6, hb6⟩
           have HO6 : Hid (Octs w6 v6 F) := ho6
           have hb6' : Below w5.heap.size w5 w6 := below_undrew hb6
           have HB6 : Hid (Below wr.heap.size wr w6) := HB5.out.trans (hb6'.mono hsz5)
           have HG6 : Hid (w6.heap[wr.heap.size]? = some (.cells (u8s C1).toArray 60 (0, 0))) := row_same HG5.out hb6' hlt5
           clear ho6 hb6 hb6'))
      have hsz7 : wr.heap.size ≤ w7.heap.size := HB7.out.size
      have hlt7 : wr.heap.size < w7.heap.size := lt_of_heap HG7.out
      obtain ⟨C2, hC2⟩ : ∃ C, C = splice C1 4 F := ⟨_, rfl⟩
      rw [← hC2] at HG7
      have HC2 : Hid (C2 = splice (splice (zl 124) 0 [77, 79, 84, 72]) 4 (fieldsN s)) := by unfold Hid; rw [hC2, HC1.out, HF.out]
      have HC2L : Hid (C2.length = 124) := by unfold Hid; rw [hC2, length_splice _ _ _ (by rw [HC1L.out, HFL.out]; decide), HC1L.out]
      obtain ⟨G, hG⟩ : ∃ G, G = octZ s.gen 8 := ⟨_, rfl⟩
      have HGG : Hid (octZ s.gen 8 = G) := hG.symm
      have HGL : Hid (G.length = 8) := by unfold Hid; rw [hG, octZ_length]
      have FS7 : Hid (SupAt w7 w.heap.size s) := (FS.out.same HB3.out (by have := FSZ.out; omega)).same HB7.out (by have := FSZ.out; have := HB3.out.size; omega)
      have FR7 : Hid (w7.heap[w.heap.size + 1]? = some (.cells (u8s Z1).toArray 43 (0, 0))) := row_same (row_same FR.out HB3.out (by have := FSZ.out; omega)) HB7.out (by have := FSZ.out; have := HB3.out.size; omega)
      have HT7 : Hid (Steps w7) := ((HT.out.below FB.out).below HB3.out).below HB7.out
      have FB7 : Hid (Below w.heap.size w w7) := (FB.out.trans (HB3.out.mono (by have := FSZ.out; omega))).trans (HB7.out.mono (by have := FSZ.out; have := HB3.out.size; omega))
      have c7 := FS7.out.cells.1
      have hx7 : w.heap.size < w7.heap.size := FS7.out.lt
      clear hC2 hG HO7 HO6 HG6 HB6 HG5 HW5 HW3 FS FR
      go_wp2_with fail
      go_region_law (first
        | (refine step_copy_octs (by rfl) _ _ 26 26 (by rfl) 5 Tryd.underlying26 Tryd.sizeU85 wr.heap.size 116 8 8 (by rfl) _ G (by rfl) HO10.out C2 60 HG10.out (by rw [HGL.out]; decide) (by rw [HGL.out, HC2L.out]; decide) wr.heap.size w7 HB10.out (Nat.le_refl _) ?_
           intro w11 HG11 HB11 HO11)
        | (go_simp; go_at_call 30; refine (write_new _).mono ?_; rintro e w8 ⟨rfl, hw8, hb8⟩
           have HB8 : Hid (Below w7.heap.size w7 w8) := below_undrew hb8
           have HW8 : Hid (IsW w7.heap.size w8 w7.heap.size []) := hw8
           have d8 : w8.cell? ⟨w.heap.size, 0, none⟩ = some (.int .i64 s.gen) := (HB8.out.cell (p := ⟨w.heap.size, 0, none⟩) hx7).trans c7
           clear hb8 hw8)
        | (go_simp; go_at_call 31; refine (wnum_any HW8.out s.gen 8 (by simp)).mono ?_; rintro e w9 ⟨rfl, hw9, hb9⟩
           rw [show cl 8 8 = 8 by decide, List.nil_append, HGG.out] at hw9
           have HB9 : Hid (Below w7.heap.size w7 w9) := HB8.out.trans hb9
           have HW9 : Hid (IsW w7.heap.size w9 w7.heap.size G) := hw9
           clear hw9 hb9)
        | (go_simp; go_at_call 32; refine (wbytes_any HW9.out (by rw [HGL.out]; decide)).mono ?_; rintro e w10 ⟨v10, rfl, ho10, hb10⟩
           have HO10 : Hid (Octs w10 v10 G) := ho10
           have hb10' : Below w7.heap.size w7 w10 := HB9.out.trans (hb10.mono HB9.out.size)
           have HB10 : Hid (Below wr.heap.size w7 w10) := hb10'.mono hsz7
           have HG10 : Hid (w10.heap[wr.heap.size]? = some (.cells (u8s C2).toArray 60 (0, 0))) := row_same HG7.out hb10' hlt7
           have FR10 : Hid (w10.heap[w.heap.size + 1]? = some (.cells (u8s Z1).toArray 43 (0, 0))) := row_same FR7.out hb10' (lt_of_heap FR7.out)
           have HT10 : Hid (Steps w10) := HT7.out.below hb10'
           have FB10 : Hid (Below w.heap.size w w10) := FB7.out.trans (hb10'.mono (by omega))
           clear ho10 hb10 hb10'))
      all_goals
        have hlt11 : wr.heap.size < w11.heap.size := lt_of_heap HG11.out
        obtain ⟨Bd, hBd⟩ : ∃ B, B = splice C2 116 G := ⟨_, rfl⟩
        rw [← hBd] at HG11
        have HBd : Hid (Bd = body s) := by unfold Hid; rw [hBd, HC2.out, ← HGG.out, body_splice]
        have HBL : Hid (Bd.length = 124) := by unfold Hid; rw [HBd.out, body_length]
        have HBS : Hid (∀ z ∈ Bd, z < 256) := by unfold Hid; rw [HBd.out]; exact body_small s
        obtain ⟨X, hX⟩ : ∃ X, X = sect s := ⟨_, rfl⟩
        have HX : Hid (Bd ++ octN (crcSum Bd) = X) := by unfold Hid; rw [hX, HBd.out]; rfl
        have HXL : Hid (X.length = 128) := by unfold Hid; rw [hX, sect_length]
        have HXE : Hid (sect s = X) := hX.symm
        have HZL : Hid (Z1.length = 128) := by unfold Hid; rw [HZ1.out, zl_length]
        have FR11 : Hid (w11.heap[w.heap.size + 1]? = some (.cells (u8s Z1).toArray 43 (0, 0))) := (HO11.out.heap (lt_of_heap FR10.out) (by have := FSZ.out; have := HB3.out.size; omega)).trans FR10.out
        have FB11 : Hid (Below w.heap.size w w11) := FB7.out.trans (HB11.out.mono (by have := FSZ.out; have := HB3.out.size; omega))
        have HT11 : Hid (Steps w11) := HT.out.below FB11.out
        have hr11 : w.heap.size + 1 < w11.heap.size := lt_of_heap FR11.out
        clear hBd hX HO11 HG10 HB10 HO10 HW9 HB9 HW8 HB8 FR10 HT10 FB10 d8 c7
        go_wp2_with fail
        have HB12 : Hid (Below w11.heap.size w11 (w11.alloc (.cells (u8s Z1).toArray 43))) := (Below.refl _ _).alloc (Nat.le_refl _) _
        have HG12 : Hid ((w11.alloc (.cells (u8s Z1).toArray 43)).heap[w11.heap.size]? = some (.cells (u8s Z1).toArray 43 (0, 0))) := heap_alloc_new _ _
        have HGb : Hid ((w11.alloc (.cells (u8s Z1).toArray 43)).heap[wr.heap.size]? = some (.cells (u8s Bd).toArray 60 (0, 0))) := row_same HG11.out HB12.out hlt11
        have HT12 : Hid (Steps (w11.alloc (.cells (u8s Z1).toArray 43))) := HT11.out.alloc _
        have FZ12 : Hid ((w11.alloc (.cells (u8s Z1).toArray 43)).heap.size = w11.heap.size + 1) := by simp [Hid]
        generalize w11.alloc (.cells (u8s Z1).toArray 43) = W12 at HB12 HG12 HGb HT12 FZ12 ⊢
        go_region_law (first
          | (refine step_copy_octs (by rfl) _ _ 26 26 (by rfl) 5 Tryd.underlying26 Tryd.sizeU85 w11.heap.size 0 128 128 (by rfl) _ X (by rfl) HO13.out Z1 43 HG13.out (by rw [HXL.out]; decide) (by rw [HXL.out, HZL.out]; decide) w11.heap.size w11 HB13.out (Nat.le_refl _) ?_
             intro w14 HG14 HB14 HO14)
          | (go_simp; go_at_call 33; refine (seal_octs _ Bd _ (octs_row0 HGb.out HBS.out HBL.out (by decide)).drew (by rw [HBL.out]; decide) HT12.out.drew).mono ?_; rintro e w13 ⟨a13, c13, rfl, ho13, hb13⟩
             rw [HX.out] at ho13
             have HO13 : Hid (Octs w13 _ X) := ho13
             have hb13' : Below W12.heap.size W12 w13 := below_undrew hb13
             have HB13 : Hid (Below w11.heap.size w11 w13) := HB12.out.trans (hb13'.mono HB12.out.size)
             have HG13 : Hid (w13.heap[w11.heap.size]? = some (.cells (u8s Z1).toArray 43 (0, 0))) := row_same HG12.out hb13' (lt_of_heap HG12.out)
             clear ho13 hb13 hb13'))
        all_goals
          have e14 : splice Z1 0 X = X := splice_full _ _ (by rw [HZL.out, HXL.out])
          rw [e14] at HG14
          have FR14 : Hid (w14.heap[w.heap.size + 1]? = some (.cells (u8s Z1).toArray 43 (0, 0))) := row_same FR11.out HB14.out hr11
          have FB14 : Hid (Below w.heap.size w w14) := FB11.out.trans (HB14.out.mono (by omega))
          clear e14 HO14 HO13 HG13 HB13
          go_wp2_with (first
            | (with_reducible show wpList _ _ _ (Oper.mk _ (Op.load _ _) _ _ _ _ :: _) _ _; go_must (refine wpList_load_mid rfl 43 _ rfl _ _ rfl (u8s X) _ (range_row HG14.out) Tryd.underlying43 rfl (by rw [u8s_length, HXL.out]; exact Tryd.size43) ?_))
            | (with_reducible show wpList _ _ _ (Oper.mk _ (Op.store _ _ _) _ _ _ _ :: _) _ _; go_must (refine wpList_store_mid rfl 43 _ _ rfl (w.heap.size + 1) 0 (u8s X).toArray rfl rfl (there_row' FR14.out (by rw [u8s_length, HZL.out, List.size_toArray, u8s_length, HXL.out])) (by rw [List.size_toArray, u8s_length, HXL.out]; exact Tryd.size43) (all_oneCell_toArray (u8s_one X)) ?_)))
          have hld := run_loadVar_mid (P := Tryd.prog) _ (w.heap.size + 1) 0 43 (u8s X) _ (World.rangeAt_setCells_same w14 (w.heap.size + 1) 0 (u8s X) (there_row' FR14.out (by rw [u8s_length, u8s_length, HZL.out, HXL.out]))) Tryd.underlying43 rfl (by rw [u8s_length, HXL.out]; exact Tryd.size43)
          refine bodyPost_ret (v := .agg (u8s X).toArray) ?_ rfl ⟨by rw [HXE.out], below_setCells FB14.out (by omega) _ _⟩
          exact results_cell1 rfl rfl hld
end Go.Proofs.YtgbibhbmcbbbhaaDoor
