/- Contract of 'Get'. -/
import Derived.Test.YtgbibhbmcbbbhaaDoorWalkTold5
namespace Go.Proofs.YtgbibhbmcbbbhaaDoor
open Go.RowKit
set_option linter.unusedVariables false

def getS (zs : List Nat) : Option Sup := if zs.length = 128 then toldS zs else none

set_option maxHeartbeats 400000 in
theorem get5 (v : Value) (zs : List Nat) (w : World) (h : Octs w v zs) (ht : Steps w) : Calls Tryd.prog 12 #[v] w fun e w' => e = .returned (toldV (getS zs)) ∧ Below w.heap.size w w' := by
  have HO : Hid (Octs w v zs) := h
  have HT : Hid (Steps w) := ht
  have hlen := h.len
  obtain ⟨a, cap, rfl⟩ := h.shape
  clear h ht
  have hz43 := Tryd.zero43
  obtain ⟨Z1, hZ1⟩ : ∃ Z, Z = zl 128 := ⟨_, rfl⟩
  rw [← hZ1] at hz43
  have HZL : Hid (Z1.length = 128) := by unfold Hid; rw [hZ1, zl_length]
  clear hZ1
  have W1 : Hid (Below w.heap.size w ((w.alloc (.cells Sup.zero.cl.toArray 24)).alloc (.cells (u8s Z1).toArray 43))) := ((Below.refl _ _).alloc (Nat.le_refl _) _).alloc (by simp) _
  have W2 : Hid (SupAt ((w.alloc (.cells Sup.zero.cl.toArray 24)).alloc (.cells (u8s Z1).toArray 43)) w.heap.size Sup.zero) := SupAt.same (B := w.heap.size + 1) (heap_alloc_new w _) ((Below.refl _ _).alloc (by simp) _) (by omega)
  have W3 : Hid (((w.alloc (.cells Sup.zero.cl.toArray 24)).alloc (.cells (u8s Z1).toArray 43)).heap[w.heap.size + 1]? = some (.cells (u8s Z1).toArray 43 (0, 0))) := by
    have := heap_alloc_new (w.alloc (.cells Sup.zero.cl.toArray 24)) (.cells (u8s Z1).toArray 43)
    rwa [show (w.alloc (.cells Sup.zero.cl.toArray 24)).heap.size = w.heap.size + 1 by simp] at this
  by_cases hn : zs.length = 128
  · have HG : Hid (getS zs = toldS zs) := if_pos hn
    have hn' : (zs.length : Int) = 128 := by omega
    have HN : Hid (zs.length = 128) := hn
    rw [hn] at HO ⊢
    clear hn hlen hn'
    go_enter Tryd.func12, Tryd.ntmps12
    go_wp2_with ((with_reducible show wpList _ _ _ (Oper.mk _ (Op.call ⟨Callee.builtin Builtin.copy, _, _⟩) _ _ _ _ :: _) _ _); go_must (refine wpList_copy_octs rfl _ _ 26 26 rfl 5 Tryd.underlying26 Tryd.sizeU85 (w.heap.size + 1) 0 128 128 rfl _ zs rfl (HO.out.kept W1.out) Z1 43 W3.out (by rw [HN.out]; decide) (by rw [HN.out, HZL.out]; decide) w.heap.size w W1.out (by omega) ?_))
    intro w3 HG3 HB3 HO3
    rw [splice_full _ _ (by rw [HZL.out, HN.out])] at HG3
    have F3 : Hid (SupAt w3 w.heap.size Sup.zero) := (HO3.out.heap (W2.out.lt) (by omega)).trans W2.out
    have HT3 : Hid (Steps w3) := HT.out.below HB3.out
    clear HO3 W1 W2 W3
    go_wp2_with (first
      | ((with_reducible show wpList _ _ _ (Oper.mk _ (Op.load _ _) _ _ _ _ :: _) _ _); go_must (refine wpList_load_mid rfl 43 _ rfl _ _ rfl (u8s zs) _ (range_row HG3.out) Tryd.underlying43 rfl (by rw [u8s_length, HN.out]; exact Tryd.size43) ?_)))
    go_wp2_with fail
    refine (told5 zs HN.out HO.out.small _ HT3.out).mono ?_
    rintro e w4 ⟨rfl, hb4⟩
    have F4 : Hid (SupAt w4 w.heap.size Sup.zero) := F3.out.same hb4 F3.out.lt
    have HB4 : Hid (Below w.heap.size w w4) := HB3.out.trans (hb4.mono HB3.out.size)
    clear hb4
    have HV : Hid (toldV (toldS zs) = .tuple #[sval ((toldS zs).getD Sup.zero), .bool (toldS zs).isSome]) := rfl
    rw [HV.out]
    generalize (toldS zs).isSome = b at HV ⊢
    generalize (toldS zs).getD Sup.zero = r at HV ⊢
    go_wp2_with ((with_reducible show wpList _ _ _ (Oper.mk _ (Op.store _ _ _) _ _ _ _ :: _) _ _); go_must (refine wpList_store_mid rfl 24 _ _ rfl w.heap.size 0 r.cl.toArray rfl rfl F4.out.there Tryd.sizeS5 r.cl_one ?_))
    go_wp2
    refine bodyPost_ret (v := .tuple #[sval r, .bool b]) (results_cell2 rfl rfl rfl (sup_loadSet F4.out r)) rfl ⟨by rw [HG.out, HV.out], below_setCells HB4.out (by omega) _ _⟩
  · have HG : Hid (getS zs = none) := if_neg hn
    have hn' : ¬ (zs.length : Int) = 128 := by omega
    go_enter Tryd.func12, Tryd.ntmps12
    go_wp2_with ((with_reducible show wpList _ _ _ (Oper.mk _ (Op.store _ _ _) _ _ _ _ :: _) _ _); go_must (refine wpList_store_mid rfl 24 _ _ rfl w.heap.size 0 Sup.zero.cl.toArray rfl rfl W2.out.there Tryd.sizeS5 Sup.zero.cl_one ?_))
    go_wp2
    refine bodyPost_ret (v := toldV none) (results_cell2 rfl rfl rfl (sup_loadSet W2.out Sup.zero)) rfl ⟨by rw [HG.out], below_setCells W1.out (by omega) _ _⟩
end Go.Proofs.YtgbibhbmcbbbhaaDoor
