/- The document's Newest and Top: their contracts. (Written by wip/mk_refnew5.py.) -/
import Derived.Test.YtgbibhbmcbbbhaaDoorWalkRefGet5
namespace Go.Proofs.YtgbibhbmcbbbhaaDoor
open Go.RowKit
set_option linter.unusedVariables false

set_option maxHeartbeats 2000000 in
set_option maxRecDepth 20000 in
theorem refNewest5 (zs : List Nat) (hz : ∀ z ∈ zs, z < 256) (hl : zs.length ≤ 100000) (w : World) : Calls Tryd.prog 16 #[.string (strN zs)] w fun e w' => e = .returned (toldV (newestS zs)) ∧ Below w.heap.size w w' := by
  have hsz := strN_size zs
  have W2 : Hid (SupAt (w.alloc (.cells Sup.zero.cl.toArray 24)) w.heap.size Sup.zero) := heap_alloc_new w _
  have W1 : Hid (Below w.heap.size w (w.alloc (.cells Sup.zero.cl.toArray 24))) := (Below.refl _ _).alloc (Nat.le_refl _) _
  by_cases hn : zs.length = 256
  · rw [hn] at hsz
    have HNW : Hid (newestS zs = pickS (evenS (toldS (zs.take 128))) (oddS (toldS (zs.drop 128)))) := if_pos hn
    have hx0 : (strN zs).extract 0 128 = strN (zs.take 128) := by rw [strN_cut]; simp
    have hx1 : (strN zs).extract 128 256 = strN (zs.drop 128) := by rw [strN_cut, List.take_of_length_le (by rw [List.length_drop, hn]; decide)]
    have HLA : Hid ((zs.take 128).length = 128) := by unfold Hid; rw [List.length_take, hn]; decide
    have HLB : Hid ((zs.drop 128).length = 128) := by unfold Hid; rw [List.length_drop, hn]
    have HSA : Hid (∀ z ∈ zs.take 128, z < 256) := fun z h => hz z (List.mem_of_mem_take h)
    have HSB : Hid (∀ z ∈ zs.drop 128, z < 256) := fun z h => hz z (List.mem_of_mem_drop h)
    generalize zs.take 128 = A at *
    generalize zs.drop 128 = Bq at *
    clear hz hl hn
    go_enter Tryd.func16, Tryd.ntmps16
    go_wp2_with fail
    refine (refGet5 A HSA.out (by rw [HLA.out]; decide) _).mono ?_
    rintro e w1 ⟨rfl, hb1⟩
    rw [show getS A = toldS A from if_pos HLA.out]
    have Z1 : Hid (SupAt w1 w.heap.size Sup.zero) := W2.out.same hb1 W2.out.lt
    have B1 : Hid (Below w.heap.size w w1) := W1.out.trans (hb1.mono W1.out.size)
    clear hb1 W1 W2
    have HV1 : Hid (toldV (toldS A) = .tuple #[sval ((toldS A).getD Sup.zero), .bool (toldS A).isSome]) := rfl
    rw [HV1.out]
    generalize hX : (toldS A).getD Sup.zero = X
    generalize hXb : (toldS A).isSome = xb
    have HX : Hid ((toldS A).getD Sup.zero = X) := hX
    have HXb : Hid ((toldS A).isSome = xb) := hXb
    clear hX hXb HV1
    go_wp2_with fail
    have X2 : Hid (SupAt (w1.alloc (.cells #[.int .i64 X.gen, .int .i64 X.journal, .int .i64 X.area, .int .i64 X.which, .int .i64 X.len, .int .u32 X.sum, .int .i64 X.epoch, .int .i64 X.start] 24)) w1.heap.size X) := heap_alloc_new _ _
    have Z2 : Hid (SupAt (w1.alloc (.cells #[.int .i64 X.gen, .int .i64 X.journal, .int .i64 X.area, .int .i64 X.which, .int .i64 X.len, .int .u32 X.sum, .int .i64 X.epoch, .int .i64 X.start] 24)) w.heap.size Sup.zero) := SupAt.same Z1.out ((Below.refl _ _).alloc (Nat.le_refl _) _) Z1.out.lt
    have B2 : Hid (Below w.heap.size w (w1.alloc (.cells #[.int .i64 X.gen, .int .i64 X.journal, .int .i64 X.area, .int .i64 X.which, .int .i64 X.len, .int .u32 X.sum, .int .i64 X.epoch, .int .i64 X.start] 24))) := B1.out.alloc B1.out.size _
    refine (refGet5 Bq HSB.out (by rw [HLB.out]; decide) _).mono ?_
    rintro e w3 ⟨rfl, hb3⟩
    rw [show getS Bq = toldS Bq from if_pos HLB.out]
    have X3 : Hid (SupAt w3 w1.heap.size X) := X2.out.same hb3 X2.out.lt
    have Z3 : Hid (SupAt w3 w.heap.size Sup.zero) := Z2.out.same hb3 Z2.out.lt
    have B3 : Hid (Below w.heap.size w w3) := B2.out.trans (hb3.mono B2.out.size)
    clear hb3 X2 Z2 B2
    have HV2 : Hid (toldV (toldS Bq) = .tuple #[sval ((toldS Bq).getD Sup.zero), .bool (toldS Bq).isSome]) := rfl
    rw [HV2.out]
    generalize hY : (toldS Bq).getD Sup.zero = Y
    generalize hYb : (toldS Bq).isSome = yb
    have HY : Hid ((toldS Bq).getD Sup.zero = Y) := hY
    have HYb : Hid ((toldS Bq).isSome = yb) := hYb
    clear hY hYb HV2
    have YV : Hid (SupAt (w3.alloc (.cells #[.int .i64 Y.gen, .int .i64 Y.journal, .int .i64 Y.area, .int .i64 Y.which, .int .i64 Y.len, .int .u32 Y.sum, .int .i64 Y.epoch, .int .i64 Y.start] 24)) w3.heap.size Y) := heap_alloc_new _ _
    have XV : Hid (SupAt (w3.alloc (.cells #[.int .i64 Y.gen, .int .i64 Y.journal, .int .i64 Y.area, .int .i64 Y.which, .int .i64 Y.len, .int .u32 Y.sum, .int .i64 Y.epoch, .int .i64 Y.start] 24)) w1.heap.size X) := SupAt.same X3.out ((Below.refl _ _).alloc (Nat.le_refl _) _) X3.out.lt
    have ZV : Hid (SupAt (w3.alloc (.cells #[.int .i64 Y.gen, .int .i64 Y.journal, .int .i64 Y.area, .int .i64 Y.which, .int .i64 Y.len, .int .u32 Y.sum, .int .i64 Y.epoch, .int .i64 Y.start] 24)) w.heap.size Sup.zero) := SupAt.same Z3.out ((Below.refl _ _).alloc (Nat.le_refl _) _) Z3.out.lt
    have BV : Hid (Below w.heap.size w (w3.alloc (.cells #[.int .i64 Y.gen, .int .i64 Y.journal, .int .i64 Y.area, .int .i64 Y.which, .int .i64 Y.len, .int .u32 Y.sum, .int .i64 Y.epoch, .int .i64 Y.start] 24))) := B3.out.alloc B3.out.size _
    obtain ⟨p0, p1, p2, p3, p4, p5, p6, p7⟩ := XV.out.cells
    obtain ⟨q0, q1, q2, q3, q4, q5, q6, q7⟩ := YV.out.cells
    clear X3 Z3 B3 Z1 B1
    cases ho1 : toldS A with
    | none =>
      rw [ho1] at HXb HNW
      have hxb : xb = false := HXb.out.symm
      subst hxb
      cases ho2 : toldS Bq with
      | none =>
        rw [ho2] at HYb HNW
        have hyb : yb = false := HYb.out.symm
        subst hyb
        have HV : Hid (newestS zs = none) := by unfold Hid; rw [HNW.out]; simp [evenS, oddS, pickS]
        go_wp2_with ((with_reducible show wpList _ _ _ (Oper.mk _ (Op.store _ (Operand.tmp 2) _) _ _ _ _ :: _) _ _); go_must (refine wpList_store_mid rfl 24 _ _ rfl w.heap.size 0 Sup.zero.cl.toArray rfl rfl ZV.out.there Tryd.sizeS5 Sup.zero.cl_one ?_))
        go_wp2
        exact bodyPost_ret (v := toldV none) (results_cell2 rfl rfl rfl (sup_loadSet ZV.out Sup.zero)) rfl ⟨by rw [HV.out], below_setCells BV.out (Nat.le_refl _) _ _⟩
      | some y =>
        rw [ho2] at HYb HNW HY
        have hyb : yb = true := HYb.out.symm
        have hY : y = Y := HY.out
        subst hyb hY
        have gy := told_gen ho2
        have hm : y.gen.tmod 2 = y.gen % 2 := Int.tmod_eq_emod_of_nonneg (by omega)
        by_cases h1 : y.gen % 2 = 1
        · have HV : Hid (newestS zs = some y) := by unfold Hid; rw [HNW.out]; simp [evenS, oddS, pickS, h1]
          go_wp2_with ((with_reducible show wpList _ _ _ (Oper.mk _ (Op.store _ (Operand.tmp 2) _) _ _ _ _ :: _) _ _); go_must (refine wpList_store_mid rfl 24 _ _ rfl w.heap.size 0 y.cl.toArray rfl rfl ZV.out.there Tryd.sizeS5 y.cl_one ?_))
          go_wp2
          exact bodyPost_ret (v := toldV (some y)) (results_cell2 rfl rfl rfl (sup_loadSet ZV.out y)) rfl ⟨by rw [HV.out], below_setCells BV.out (Nat.le_refl _) _ _⟩
        · have HV : Hid (newestS zs = none) := by unfold Hid; rw [HNW.out]; simp [evenS, oddS, pickS, h1]
          go_wp2_with ((with_reducible show wpList _ _ _ (Oper.mk _ (Op.store _ (Operand.tmp 2) _) _ _ _ _ :: _) _ _); go_must (refine wpList_store_mid rfl 24 _ _ rfl w.heap.size 0 Sup.zero.cl.toArray rfl rfl ZV.out.there Tryd.sizeS5 Sup.zero.cl_one ?_))
          go_wp2
          exact bodyPost_ret (v := toldV none) (results_cell2 rfl rfl rfl (sup_loadSet ZV.out Sup.zero)) rfl ⟨by rw [HV.out], below_setCells BV.out (Nat.le_refl _) _ _⟩
    | some x =>
      rw [ho1] at HXb HNW HX
      have hxb : xb = true := HXb.out.symm
      have hX : x = X := HX.out
      subst hxb hX
      have gx := told_gen ho1
      have hmx : x.gen.tmod 2 = x.gen % 2 := Int.tmod_eq_emod_of_nonneg (by omega)
      by_cases h0 : x.gen % 2 = 0
      · cases ho2 : toldS Bq with
        | none =>
          rw [ho2] at HYb HNW
          have hyb : yb = false := HYb.out.symm
          subst hyb
          have HV : Hid (newestS zs = some x) := by unfold Hid; rw [HNW.out]; simp [evenS, oddS, pickS, h0]
          go_wp2_with ((with_reducible show wpList _ _ _ (Oper.mk _ (Op.store _ (Operand.tmp 2) _) _ _ _ _ :: _) _ _); go_must (refine wpList_store_mid rfl 24 _ _ rfl w.heap.size 0 x.cl.toArray rfl rfl ZV.out.there Tryd.sizeS5 x.cl_one ?_))
          go_wp2
          exact bodyPost_ret (v := toldV (some x)) (results_cell2 rfl rfl rfl (sup_loadSet ZV.out x)) rfl ⟨by rw [HV.out], below_setCells BV.out (Nat.le_refl _) _ _⟩
        | some y =>
          rw [ho2] at HYb HNW HY
          have hyb : yb = true := HYb.out.symm
          have hY : y = Y := HY.out
          subst hyb hY
          have gy := told_gen ho2
          have hm : y.gen.tmod 2 = y.gen % 2 := Int.tmod_eq_emod_of_nonneg (by omega)
          by_cases h1 : y.gen % 2 = 1
          · by_cases h2 : y.gen < x.gen
            · have HV : Hid (newestS zs = some x) := by unfold Hid; rw [HNW.out]; simp [evenS, oddS, pickS, h0, h1, h2]
              go_wp2_with ((with_reducible show wpList _ _ _ (Oper.mk _ (Op.store _ (Operand.tmp 2) _) _ _ _ _ :: _) _ _); go_must (refine wpList_store_mid rfl 24 _ _ rfl w.heap.size 0 x.cl.toArray rfl rfl ZV.out.there Tryd.sizeS5 x.cl_one ?_))
              go_wp2
              exact bodyPost_ret (v := toldV (some x)) (results_cell2 rfl rfl rfl (sup_loadSet ZV.out x)) rfl ⟨by rw [HV.out], below_setCells BV.out (Nat.le_refl _) _ _⟩
            · have HV : Hid (newestS zs = some y) := by unfold Hid; rw [HNW.out]; simp [evenS, oddS, pickS, h0, h1, h2]
              go_wp2_with ((with_reducible show wpList _ _ _ (Oper.mk _ (Op.store _ (Operand.tmp 2) _) _ _ _ _ :: _) _ _); go_must (refine wpList_store_mid rfl 24 _ _ rfl w.heap.size 0 y.cl.toArray rfl rfl ZV.out.there Tryd.sizeS5 y.cl_one ?_))
              go_wp2
              exact bodyPost_ret (v := toldV (some y)) (results_cell2 rfl rfl rfl (sup_loadSet ZV.out y)) rfl ⟨by rw [HV.out], below_setCells BV.out (Nat.le_refl _) _ _⟩
          · have HV : Hid (newestS zs = some x) := by unfold Hid; rw [HNW.out]; simp [evenS, oddS, pickS, h0, h1]
            go_wp2_with ((with_reducible show wpList _ _ _ (Oper.mk _ (Op.store _ (Operand.tmp 2) _) _ _ _ _ :: _) _ _); go_must (refine wpList_store_mid rfl 24 _ _ rfl w.heap.size 0 x.cl.toArray rfl rfl ZV.out.there Tryd.sizeS5 x.cl_one ?_))
            go_wp2
            exact bodyPost_ret (v := toldV (some x)) (results_cell2 rfl rfl rfl (sup_loadSet ZV.out x)) rfl ⟨by rw [HV.out], below_setCells BV.out (Nat.le_refl _) _ _⟩
      · cases ho2 : toldS Bq with
        | none =>
          rw [ho2] at HYb HNW
          have hyb : yb = false := HYb.out.symm
          subst hyb
          have HV : Hid (newestS zs = none) := by unfold Hid; rw [HNW.out]; simp [evenS, oddS, pickS, h0]
          go_wp2_with ((with_reducible show wpList _ _ _ (Oper.mk _ (Op.store _ (Operand.tmp 2) _) _ _ _ _ :: _) _ _); go_must (refine wpList_store_mid rfl 24 _ _ rfl w.heap.size 0 Sup.zero.cl.toArray rfl rfl ZV.out.there Tryd.sizeS5 Sup.zero.cl_one ?_))
          go_wp2
          exact bodyPost_ret (v := toldV none) (results_cell2 rfl rfl rfl (sup_loadSet ZV.out Sup.zero)) rfl ⟨by rw [HV.out], below_setCells BV.out (Nat.le_refl _) _ _⟩
        | some y =>
          rw [ho2] at HYb HNW HY
          have hyb : yb = true := HYb.out.symm
          have hY : y = Y := HY.out
          subst hyb hY
          have gy := told_gen ho2
          have hm : y.gen.tmod 2 = y.gen % 2 := Int.tmod_eq_emod_of_nonneg (by omega)
          by_cases h1 : y.gen % 2 = 1
          · have HV : Hid (newestS zs = some y) := by unfold Hid; rw [HNW.out]; simp [evenS, oddS, pickS, h0, h1]
            go_wp2_with ((with_reducible show wpList _ _ _ (Oper.mk _ (Op.store _ (Operand.tmp 2) _) _ _ _ _ :: _) _ _); go_must (refine wpList_store_mid rfl 24 _ _ rfl w.heap.size 0 y.cl.toArray rfl rfl ZV.out.there Tryd.sizeS5 y.cl_one ?_))
            go_wp2
            exact bodyPost_ret (v := toldV (some y)) (results_cell2 rfl rfl rfl (sup_loadSet ZV.out y)) rfl ⟨by rw [HV.out], below_setCells BV.out (Nat.le_refl _) _ _⟩
          · have HV : Hid (newestS zs = none) := by unfold Hid; rw [HNW.out]; simp [evenS, oddS, pickS, h0, h1]
            go_wp2_with ((with_reducible show wpList _ _ _ (Oper.mk _ (Op.store _ (Operand.tmp 2) _) _ _ _ _ :: _) _ _); go_must (refine wpList_store_mid rfl 24 _ _ rfl w.heap.size 0 Sup.zero.cl.toArray rfl rfl ZV.out.there Tryd.sizeS5 Sup.zero.cl_one ?_))
            go_wp2
            exact bodyPost_ret (v := toldV none) (results_cell2 rfl rfl rfl (sup_loadSet ZV.out Sup.zero)) rfl ⟨by rw [HV.out], below_setCells BV.out (Nat.le_refl _) _ _⟩
  · have HV : Hid (newestS zs = none) := if_neg hn
    have hn' : ¬ (zs.length : Int) = 256 := by omega
    have ZV := W2
    have BV := W1
    go_enter Tryd.func16, Tryd.ntmps16
    go_wp2_with ((with_reducible show wpList _ _ _ (Oper.mk _ (Op.store _ (Operand.tmp 2) _) _ _ _ _ :: _) _ _); go_must (refine wpList_store_mid rfl 24 _ _ rfl w.heap.size 0 Sup.zero.cl.toArray rfl rfl ZV.out.there Tryd.sizeS5 Sup.zero.cl_one ?_))
    go_wp2
    exact bodyPost_ret (v := toldV none) (results_cell2 rfl rfl rfl (sup_loadSet ZV.out Sup.zero)) rfl ⟨by rw [HV.out], below_setCells BV.out (Nat.le_refl _) _ _⟩
end Go.Proofs.YtgbibhbmcbbbhaaDoor
