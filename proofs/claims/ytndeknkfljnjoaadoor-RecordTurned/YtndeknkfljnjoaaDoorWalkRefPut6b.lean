/- The document's Put of a part: its contract. (Written by wip/mk_put6.py.) -/
import Derived.Test.YtndeknkfljnjoaaDoorWalkRefPut6
import Derived.Test.YtndeknkfljnjoaaDoorHeldMore
import Derived.Deep.DeepMust
namespace Go.Proofs.YtndeknkfljnjoaaDoor
open Go.RowKit
set_option linter.unusedVariables false

theorem str70 : (⟨#[70]⟩ : ByteArray) = strN [70] := by decide +kernel
theorem str80 : (⟨#[80]⟩ : ByteArray) = strN [80] := by decide +kernel

set_option maxHeartbeats 600000 in
set_option maxRecDepth 20000 in
theorem refPut6_true (p : Part) (v : Value) (w : World) (hft : p.foot = true) (hr : okP p = true) (ho : Octs w v p.data) : Calls Tryd.prog 13 #[pval p v] w fun e w' => e = .returned (.string (strN (sect6 p))) ∧ Below w.heap.size w w' := by
  have hd := (okP_right.1 hr).data
  have hsm := ho.small
  have HO : Hid (Octs w v p.data) := ho
  obtain ⟨a, cap, rfl⟩ := ho.shape
  have hh : headOct p.foot = 70 := by rw [hft]; rfl
  have hA1 : (⟨#[70]⟩ : ByteArray) ++ strN (octZ p.epoch 4) = strN ([headOct p.foot] ++ octZ p.epoch 4) := by rw [str70, hh]; exact strN_append _ _
  have hA2 : strN ([headOct p.foot] ++ octZ p.epoch 4) ++ strN (octZ p.number 4) = strN ([headOct p.foot] ++ octZ p.epoch 4 ++ octZ p.number 4) := strN_append _ _
  have hA3 : strN ([headOct p.foot] ++ octZ p.epoch 4 ++ octZ p.number 4) ++ strN (octZ p.index 2) = strN ([headOct p.foot] ++ octZ p.epoch 4 ++ octZ p.number 4 ++ octZ p.index 2) := strN_append _ _
  have hA4 : strN ([headOct p.foot] ++ octZ p.epoch 4 ++ octZ p.number 4 ++ octZ p.index 2) ++ strN (octZ p.data.length 1) = strN (pre6 p) := by rw [strN_append]; unfold pre6; simp only [List.append_assoc]
  have hA5 : strN (pre6 p) ++ strN p.data = strN (pre6 p ++ p.data) := strN_append _ _
  have HBE : Hid ((pre6 p ++ p.data) ++ zl (112 - p.data.length) = body6 p) := by unfold Hid body6; rw [List.append_assoc]
  have z0 : (⟨#[70]⟩ : ByteArray).size = 1 := rfl
  have z1 : (strN ([headOct p.foot] ++ octZ p.epoch 4)).size = 5 := by rw [strN_size]; simp [octZ_length]
  have z2 : (strN ([headOct p.foot] ++ octZ p.epoch 4 ++ octZ p.number 4)).size = 9 := by rw [strN_size]; simp [octZ_length]
  have z3 : (strN ([headOct p.foot] ++ octZ p.epoch 4 ++ octZ p.number 4 ++ octZ p.index 2)).size = 11 := by rw [strN_size]; simp [octZ_length]
  have z4 : (strN (pre6 p)).size = 12 := by rw [strN_size, pre6_length]
  have z5 : (strN (pre6 p ++ p.data)).size = 12 + p.data.length := by rw [strN_size, List.length_append, pre6_length]
  have zb : 12 + p.data.length ≤ 9223372036854775807 := by omega
  have y1 : (strN (octZ p.epoch 4)).size = 4 := by rw [strN_size, octZ_length]
  have y2 : (strN (octZ p.number 4)).size = 4 := by rw [strN_size, octZ_length]
  have y3 : (strN (octZ p.index 2)).size = 2 := by rw [strN_size, octZ_length]
  have y4 : (strN (octZ p.data.length 1)).size = 1 := by rw [strN_size, octZ_length]
  have y5 : (strN p.data).size = p.data.length := strN_size _
  have HSE : Hid (sect6 p = body6 p ++ octN (crcSum (body6 p))) := rfl
  have HBS : Hid (∀ z ∈ body6 p, z < 256) := body6_small p hsm
  have HBL : Hid ((body6 p).length = 124) := body6_length p hd
  have W1 : Hid (PartAt (w.alloc (.cells #[.bool true, .int .i64 p.epoch, .int .i64 p.number, .int .i64 p.index, .slice a p.data.length cap] 24)) w.heap.size p (.slice a p.data.length cap)) := by unfold Hid PartAt; rw [hft]; exact heap_alloc_new w _
  have W2 : Hid (Below w.heap.size w (w.alloc (.cells #[.bool true, .int .i64 p.epoch, .int .i64 p.number, .int .i64 p.index, .slice a p.data.length cap] 24))) := (Below.refl _ _).alloc (Nat.le_refl _) _
  have W3 : Hid (Octs (w.alloc (.cells #[.bool true, .int .i64 p.epoch, .int .i64 p.number, .int .i64 p.index, .slice a p.data.length cap] 24)) (.slice a p.data.length cap) p.data) := HO.out.alloc _
  clear ho hr hsm HO hh
  generalize body6 p = Bd at *
  generalize pre6 p ++ p.data = A5 at *
  generalize pre6 p = A4 at *
  generalize [headOct p.foot] ++ octZ p.epoch 4 ++ octZ p.number 4 ++ octZ p.index 2 = A3 at *
  generalize [headOct p.foot] ++ octZ p.epoch 4 ++ octZ p.number 4 = A2 at *
  generalize [headOct p.foot] ++ octZ p.epoch 4 = A1 at *
  have hcf : (w.alloc (.cells #[.bool true, .int .i64 p.epoch, .int .i64 p.number, .int .i64 p.index, .slice a p.data.length cap] 24)).cell? ⟨w.heap.size, 0, none⟩ = some (.bool true) := by rw [W1.out.cells.1, hft]
  go_enter Tryd.func13, Tryd.ntmps13
  go_wp2_with fail
  generalize w.alloc (.cells #[.bool true, .int .i64 p.epoch, .int .i64 p.number, .int .i64 p.index, .slice a p.data.length cap] 24) = V at *
  have HE : Hid (∀ w', Below V.heap.size V w' → w'.cell? ⟨w.heap.size, 0, none⟩ = some (.bool true) ∧ w'.cell? ⟨w.heap.size, 1, none⟩ = some (.int .i64 p.epoch) ∧ w'.cell? ⟨w.heap.size, 2, none⟩ = some (.int .i64 p.number) ∧ w'.cell? ⟨w.heap.size, 3, none⟩ = some (.int .i64 p.index) ∧ w'.cell? ⟨w.heap.size, 4, none⟩ = some (.slice a p.data.length cap) ∧ (convert 22 9 (.slice a p.data.length cap)).run Tryd.prog w' = .ok (.string (strN p.data)) w') := fun w' h => by
    obtain ⟨c0, c1, c2, c3, c4⟩ := (W1.out.same h W1.out.lt).cells
    rw [hft] at c0
    exact ⟨c0, c1, c2, c3, c4, conv_octs (P := Tryd.prog) (W3.out.kept h) _ _ _ Tryd.underlying22 Tryd.underlying5 Tryd.underlying9⟩
  clear hcf
  refine wp_region_held_drew (S := fun w' : World => w'.cell? ⟨w.heap.size, 0, none⟩ = some (.bool true) ∧ w'.cell? ⟨w.heap.size, 1, none⟩ = some (.int .i64 p.epoch) ∧ w'.cell? ⟨w.heap.size, 2, none⟩ = some (.int .i64 p.number) ∧ w'.cell? ⟨w.heap.size, 3, none⟩ = some (.int .i64 p.index) ∧ w'.cell? ⟨w.heap.size, 4, none⟩ = some (.slice a p.data.length cap) ∧ (convert 22 9 (.slice a p.data.length cap)).run Tryd.prog w' = .ok (.string (strN p.data)) w') (by kernel_rfl) (HE.out _ (Below.refl _ _).drew) (fun hHeld => ?_)
  refine wpAnyH_take (i := 0) (v := .string ⟨#[70]⟩) rfl (by kernel_rfl) (by kernel_rfl) (by kernel_rfl) (fun _ _ _ h => h) (Or.inl ⟨by rfl, fun w' hSw => ?_⟩) hHeld ?_
  · dsimp only at hSw
    go_simp
  simp only [Act.put, List.getElem_toArray, List.getElem_cons_zero, List.setIfInBounds_toArray, List.set_cons_zero, List.set_cons_succ]
  refine wpAnyH_take (i := 1) (v := .pointer (some ⟨w.heap.size, 1, none⟩)) rfl (by kernel_rfl) (by kernel_rfl) (by kernel_rfl) (fun _ _ _ h => h) (Or.inl ⟨by rfl, fun w' hSw => ?_⟩) hHeld ?_
  · dsimp only at hSw
    go_simp
  simp only [Act.put, List.getElem_toArray, List.getElem_cons_succ, List.getElem_cons_zero, List.setIfInBounds_toArray, List.set_cons_zero, List.set_cons_succ]
  refine wpAnyH_take (i := 2) (v := .int .i64 p.epoch) rfl (by kernel_rfl) (by kernel_rfl) (by kernel_rfl) (fun _ _ _ h => h) (Or.inl ⟨by rfl, fun w' hSw => ?_⟩) hHeld ?_
  · dsimp only at hSw
    go_simp
  simp only [Act.put, List.getElem_toArray, List.getElem_cons_succ, List.getElem_cons_zero, List.setIfInBounds_toArray, List.set_cons_zero, List.set_cons_succ]
  refine wpAnyH_take (i := 6) (v := .pointer (some ⟨w.heap.size, 2, none⟩)) rfl (by kernel_rfl) (by kernel_rfl) (by kernel_rfl) (fun _ _ _ h => h) (Or.inl ⟨by rfl, fun w' hSw => ?_⟩) hHeld ?_
  · dsimp only at hSw
    go_simp
  simp only [Act.put, List.getElem_toArray, List.getElem_cons_succ, List.getElem_cons_zero, List.setIfInBounds_toArray, List.set_cons_zero, List.set_cons_succ]
  refine wpAnyH_take (i := 7) (v := .int .i64 p.number) rfl (by kernel_rfl) (by kernel_rfl) (by kernel_rfl) (fun _ _ _ h => h) (Or.inl ⟨by rfl, fun w' hSw => ?_⟩) hHeld ?_
  · dsimp only at hSw
    go_simp
  simp only [Act.put, List.getElem_toArray, List.getElem_cons_succ, List.getElem_cons_zero, List.setIfInBounds_toArray, List.set_cons_zero, List.set_cons_succ]
  refine wpAnyH_take (i := 11) (v := .pointer (some ⟨w.heap.size, 3, none⟩)) rfl (by kernel_rfl) (by kernel_rfl) (by kernel_rfl) (fun _ _ _ h => h) (Or.inl ⟨by rfl, fun w' hSw => ?_⟩) hHeld ?_
  · dsimp only at hSw
    go_simp
  simp only [Act.put, List.getElem_toArray, List.getElem_cons_succ, List.getElem_cons_zero, List.setIfInBounds_toArray, List.set_cons_zero, List.set_cons_succ]
  refine wpAnyH_take (i := 12) (v := .int .i64 p.index) rfl (by kernel_rfl) (by kernel_rfl) (by kernel_rfl) (fun _ _ _ h => h) (Or.inl ⟨by rfl, fun w' hSw => ?_⟩) hHeld ?_
  · dsimp only at hSw
    go_simp
  simp only [Act.put, List.getElem_toArray, List.getElem_cons_succ, List.getElem_cons_zero, List.setIfInBounds_toArray, List.set_cons_zero, List.set_cons_succ]
  refine wpAnyH_take (i := 16) (v := .pointer (some ⟨w.heap.size, 4, none⟩)) rfl (by kernel_rfl) (by kernel_rfl) (by kernel_rfl) (fun _ _ _ h => h) (Or.inl ⟨by rfl, fun w' hSw => ?_⟩) hHeld ?_
  · dsimp only at hSw
    go_simp
  simp only [Act.put, List.getElem_toArray, List.getElem_cons_succ, List.getElem_cons_zero, List.setIfInBounds_toArray, List.set_cons_zero, List.set_cons_succ]
  refine wpAnyH_take (i := 17) (v := .slice a p.data.length cap) rfl (by kernel_rfl) (by kernel_rfl) (by kernel_rfl) (fun _ _ _ h => h) (Or.inl ⟨by rfl, fun w' hSw => ?_⟩) hHeld ?_
  · dsimp only at hSw
    go_simp
  simp only [Act.put, List.getElem_toArray, List.getElem_cons_succ, List.getElem_cons_zero, List.setIfInBounds_toArray, List.set_cons_zero, List.set_cons_succ]
  refine wpAnyH_take (i := 18) (v := .int .i64 p.data.length) rfl (by kernel_rfl) (by kernel_rfl) (by kernel_rfl) (fun _ _ _ h => h) (Or.inl ⟨by rfl, fun w' hSw => ?_⟩) hHeld ?_
  · dsimp only at hSw
    go_simp
  simp only [Act.put, List.getElem_toArray, List.getElem_cons_succ, List.getElem_cons_zero, List.setIfInBounds_toArray, List.set_cons_zero, List.set_cons_succ]
  refine wpAnyH_take (i := 22) (v := .pointer (some ⟨w.heap.size, 4, none⟩)) rfl (by kernel_rfl) (by kernel_rfl) (by kernel_rfl) (fun _ _ _ h => h) (Or.inl ⟨by rfl, fun w' hSw => ?_⟩) hHeld ?_
  · dsimp only at hSw
    go_simp
  simp only [Act.put, List.getElem_toArray, List.getElem_cons_succ, List.getElem_cons_zero, List.setIfInBounds_toArray, List.set_cons_zero, List.set_cons_succ]
  refine wpAnyH_take (i := 23) (v := .slice a p.data.length cap) rfl (by kernel_rfl) (by kernel_rfl) (by kernel_rfl) (fun _ _ _ h => h) (Or.inl ⟨by rfl, fun w' hSw => ?_⟩) hHeld ?_
  · dsimp only at hSw
    go_simp
  simp only [Act.put, List.getElem_toArray, List.getElem_cons_succ, List.getElem_cons_zero, List.setIfInBounds_toArray, List.set_cons_zero, List.set_cons_succ]
  refine wpAnyH_take (i := 24) (v := .string (strN p.data)) rfl (by kernel_rfl) (by kernel_rfl) (by kernel_rfl) (fun _ _ _ h => h) (Or.inl ⟨by rfl, fun w' hSw => ?_⟩) hHeld ?_
  · dsimp only at hSw
    go_simp
  simp only [Act.put, List.getElem_toArray, List.getElem_cons_succ, List.getElem_cons_zero, List.setIfInBounds_toArray, List.set_cons_zero, List.set_cons_succ]
  refine wpAnyH_ready (rs := [3]) (by kernel_rfl) (by simp) ?_
  refine AllReadyH.cons rfl (fun K hK => ?_) AllReadyH.nil
  go_simp
  go_wp2_with (go_at_call 29; refine (refLay_octs5 p.epoch 4 V.drew).mono ?_; rintro e w1 ⟨v1, rfl, ho, -, hb⟩; rw [show cl 4 8 = 4 by decide] at ho; have HO11 : Hid (Octs w1 v1 (octZ p.epoch 4)) := ho; have HB1 : Hid (Below V.heap.size V w1) := below_undrew hb; clear hb ho)
  refine hK.out _ _ (HE.out _ HB1.out) (fun _ => ?_)
  clear hK K hHeld
  refine wpAnyH_stronger (S' := fun w' : World => ((w'.cell? ⟨w.heap.size, 0, none⟩ = some (.bool true) ∧ w'.cell? ⟨w.heap.size, 1, none⟩ = some (.int .i64 p.epoch) ∧ w'.cell? ⟨w.heap.size, 2, none⟩ = some (.int .i64 p.number) ∧ w'.cell? ⟨w.heap.size, 3, none⟩ = some (.int .i64 p.index) ∧ w'.cell? ⟨w.heap.size, 4, none⟩ = some (.slice a p.data.length cap) ∧ (convert 22 9 (.slice a p.data.length cap)).run Tryd.prog w' = .ok (.string (strN p.data)) w') ∧ (convert 22 9 v1).run Tryd.prog w' = .ok (.string (strN (octZ p.epoch 4))) w')) (fun _ h => h.1) _ _ _ _ ?_
  have hHeld : (fun w' : World => ((w'.cell? ⟨w.heap.size, 0, none⟩ = some (.bool true) ∧ w'.cell? ⟨w.heap.size, 1, none⟩ = some (.int .i64 p.epoch) ∧ w'.cell? ⟨w.heap.size, 2, none⟩ = some (.int .i64 p.number) ∧ w'.cell? ⟨w.heap.size, 3, none⟩ = some (.int .i64 p.index) ∧ w'.cell? ⟨w.heap.size, 4, none⟩ = some (.slice a p.data.length cap) ∧ (convert 22 9 (.slice a p.data.length cap)).run Tryd.prog w' = .ok (.string (strN p.data)) w') ∧ (convert 22 9 v1).run Tryd.prog w' = .ok (.string (strN (octZ p.epoch 4))) w')) w1 := ⟨HE.out _ HB1.out, conv_octs (P := Tryd.prog) HO11.out _ _ _ Tryd.underlying22 Tryd.underlying5 Tryd.underlying9⟩
  refine wpAnyH_take (i := 4) (v := .string (strN (octZ p.epoch 4))) rfl (by kernel_rfl) (by kernel_rfl) (by kernel_rfl) (fun _ _ _ h => h) (Or.inl ⟨by rfl, fun w' hSw => ?_⟩) hHeld ?_
  · dsimp only at hSw
    go_simp
  simp only [Act.put, List.getElem_toArray, List.getElem_cons_succ, List.getElem_cons_zero, List.setIfInBounds_toArray, List.set_cons_zero, List.set_cons_succ]
  refine wpAnyH_take (i := 5) (v := .string (strN A1)) rfl (by kernel_rfl) (by kernel_rfl) (by kernel_rfl) (fun _ _ _ h => h) (Or.inl ⟨by rfl, fun w' hSw => ?_⟩) hHeld ?_
  · dsimp only at hSw
    go_simp
  simp only [Act.put, List.getElem_toArray, List.getElem_cons_succ, List.getElem_cons_zero, List.setIfInBounds_toArray, List.set_cons_zero, List.set_cons_succ]
  refine wpAnyH_ready (rs := [8]) (by kernel_rfl) (by simp) ?_
  refine AllReadyH.cons rfl (fun K hK => ?_) AllReadyH.nil
  go_simp
  go_wp2_with (go_at_call 29; refine (refLay_octs5 p.number 4 w1).mono ?_; rintro e w2 ⟨v2, rfl, ho, -, hb⟩; rw [show cl 4 8 = 4 by decide] at ho; have HO22 : Hid (Octs w2 v2 (octZ p.number 4)) := ho; have HB2 : Hid (Below V.heap.size V w2) := HB1.out.trans (hb.mono HB1.out.size); have HO12 : Hid (Octs w2 v1 (octZ p.epoch 4)) := HO11.out.kept hb; clear hb ho)
  refine hK.out _ _ (⟨HE.out _ HB2.out, conv_octs (P := Tryd.prog) HO12.out _ _ _ Tryd.underlying22 Tryd.underlying5 Tryd.underlying9⟩) (fun _ => ?_)
  clear hK K hHeld
  refine wpAnyH_stronger (S' := fun w' : World => (((w'.cell? ⟨w.heap.size, 0, none⟩ = some (.bool true) ∧ w'.cell? ⟨w.heap.size, 1, none⟩ = some (.int .i64 p.epoch) ∧ w'.cell? ⟨w.heap.size, 2, none⟩ = some (.int .i64 p.number) ∧ w'.cell? ⟨w.heap.size, 3, none⟩ = some (.int .i64 p.index) ∧ w'.cell? ⟨w.heap.size, 4, none⟩ = some (.slice a p.data.length cap) ∧ (convert 22 9 (.slice a p.data.length cap)).run Tryd.prog w' = .ok (.string (strN p.data)) w') ∧ (convert 22 9 v1).run Tryd.prog w' = .ok (.string (strN (octZ p.epoch 4))) w') ∧ (convert 22 9 v2).run Tryd.prog w' = .ok (.string (strN (octZ p.number 4))) w')) (fun _ h => h.1) _ _ _ _ ?_
  have hHeld : (fun w' : World => (((w'.cell? ⟨w.heap.size, 0, none⟩ = some (.bool true) ∧ w'.cell? ⟨w.heap.size, 1, none⟩ = some (.int .i64 p.epoch) ∧ w'.cell? ⟨w.heap.size, 2, none⟩ = some (.int .i64 p.number) ∧ w'.cell? ⟨w.heap.size, 3, none⟩ = some (.int .i64 p.index) ∧ w'.cell? ⟨w.heap.size, 4, none⟩ = some (.slice a p.data.length cap) ∧ (convert 22 9 (.slice a p.data.length cap)).run Tryd.prog w' = .ok (.string (strN p.data)) w') ∧ (convert 22 9 v1).run Tryd.prog w' = .ok (.string (strN (octZ p.epoch 4))) w') ∧ (convert 22 9 v2).run Tryd.prog w' = .ok (.string (strN (octZ p.number 4))) w')) w2 := ⟨⟨HE.out _ HB2.out, conv_octs (P := Tryd.prog) HO12.out _ _ _ Tryd.underlying22 Tryd.underlying5 Tryd.underlying9⟩, conv_octs (P := Tryd.prog) HO22.out _ _ _ Tryd.underlying22 Tryd.underlying5 Tryd.underlying9⟩
  refine wpAnyH_take (i := 9) (v := .string (strN (octZ p.number 4))) rfl (by kernel_rfl) (by kernel_rfl) (by kernel_rfl) (fun _ _ _ h => h) (Or.inl ⟨by rfl, fun w' hSw => ?_⟩) hHeld ?_
  · dsimp only at hSw
    go_simp
  simp only [Act.put, List.getElem_toArray, List.getElem_cons_succ, List.getElem_cons_zero, List.setIfInBounds_toArray, List.set_cons_zero, List.set_cons_succ]
  refine wpAnyH_take (i := 10) (v := .string (strN A2)) rfl (by kernel_rfl) (by kernel_rfl) (by kernel_rfl) (fun _ _ _ h => h) (Or.inl ⟨by rfl, fun w' hSw => ?_⟩) hHeld ?_
  · dsimp only at hSw
    go_simp
  simp only [Act.put, List.getElem_toArray, List.getElem_cons_succ, List.getElem_cons_zero, List.setIfInBounds_toArray, List.set_cons_zero, List.set_cons_succ]
  refine wpAnyH_ready (rs := [13]) (by kernel_rfl) (by simp) ?_
  refine AllReadyH.cons rfl (fun K hK => ?_) AllReadyH.nil
  go_simp
  go_wp2_with (go_at_call 29; refine (refLay_octs5 p.index 2 w2).mono ?_; rintro e w3 ⟨v3, rfl, ho, -, hb⟩; rw [show cl 2 8 = 2 by decide] at ho; have HO33 : Hid (Octs w3 v3 (octZ p.index 2)) := ho; have HB3 : Hid (Below V.heap.size V w3) := HB2.out.trans (hb.mono HB2.out.size); have HO13 : Hid (Octs w3 v1 (octZ p.epoch 4)) := HO12.out.kept hb; have HO23 : Hid (Octs w3 v2 (octZ p.number 4)) := HO22.out.kept hb; clear hb ho)
  refine hK.out _ _ (⟨⟨HE.out _ HB3.out, conv_octs (P := Tryd.prog) HO13.out _ _ _ Tryd.underlying22 Tryd.underlying5 Tryd.underlying9⟩, conv_octs (P := Tryd.prog) HO23.out _ _ _ Tryd.underlying22 Tryd.underlying5 Tryd.underlying9⟩) (fun _ => ?_)
  clear hK K hHeld
  refine wpAnyH_stronger (S' := fun w' : World => ((((w'.cell? ⟨w.heap.size, 0, none⟩ = some (.bool true) ∧ w'.cell? ⟨w.heap.size, 1, none⟩ = some (.int .i64 p.epoch) ∧ w'.cell? ⟨w.heap.size, 2, none⟩ = some (.int .i64 p.number) ∧ w'.cell? ⟨w.heap.size, 3, none⟩ = some (.int .i64 p.index) ∧ w'.cell? ⟨w.heap.size, 4, none⟩ = some (.slice a p.data.length cap) ∧ (convert 22 9 (.slice a p.data.length cap)).run Tryd.prog w' = .ok (.string (strN p.data)) w') ∧ (convert 22 9 v1).run Tryd.prog w' = .ok (.string (strN (octZ p.epoch 4))) w') ∧ (convert 22 9 v2).run Tryd.prog w' = .ok (.string (strN (octZ p.number 4))) w') ∧ (convert 22 9 v3).run Tryd.prog w' = .ok (.string (strN (octZ p.index 2))) w')) (fun _ h => h.1) _ _ _ _ ?_
  have hHeld : (fun w' : World => ((((w'.cell? ⟨w.heap.size, 0, none⟩ = some (.bool true) ∧ w'.cell? ⟨w.heap.size, 1, none⟩ = some (.int .i64 p.epoch) ∧ w'.cell? ⟨w.heap.size, 2, none⟩ = some (.int .i64 p.number) ∧ w'.cell? ⟨w.heap.size, 3, none⟩ = some (.int .i64 p.index) ∧ w'.cell? ⟨w.heap.size, 4, none⟩ = some (.slice a p.data.length cap) ∧ (convert 22 9 (.slice a p.data.length cap)).run Tryd.prog w' = .ok (.string (strN p.data)) w') ∧ (convert 22 9 v1).run Tryd.prog w' = .ok (.string (strN (octZ p.epoch 4))) w') ∧ (convert 22 9 v2).run Tryd.prog w' = .ok (.string (strN (octZ p.number 4))) w') ∧ (convert 22 9 v3).run Tryd.prog w' = .ok (.string (strN (octZ p.index 2))) w')) w3 := ⟨⟨⟨HE.out _ HB3.out, conv_octs (P := Tryd.prog) HO13.out _ _ _ Tryd.underlying22 Tryd.underlying5 Tryd.underlying9⟩, conv_octs (P := Tryd.prog) HO23.out _ _ _ Tryd.underlying22 Tryd.underlying5 Tryd.underlying9⟩, conv_octs (P := Tryd.prog) HO33.out _ _ _ Tryd.underlying22 Tryd.underlying5 Tryd.underlying9⟩
  refine wpAnyH_take (i := 14) (v := .string (strN (octZ p.index 2))) rfl (by kernel_rfl) (by kernel_rfl) (by kernel_rfl) (fun _ _ _ h => h) (Or.inl ⟨by rfl, fun w' hSw => ?_⟩) hHeld ?_
  · dsimp only at hSw
    go_simp
  simp only [Act.put, List.getElem_toArray, List.getElem_cons_succ, List.getElem_cons_zero, List.setIfInBounds_toArray, List.set_cons_zero, List.set_cons_succ]
  refine wpAnyH_take (i := 15) (v := .string (strN A3)) rfl (by kernel_rfl) (by kernel_rfl) (by kernel_rfl) (fun _ _ _ h => h) (Or.inl ⟨by rfl, fun w' hSw => ?_⟩) hHeld ?_
  · dsimp only at hSw
    go_simp
  simp only [Act.put, List.getElem_toArray, List.getElem_cons_succ, List.getElem_cons_zero, List.setIfInBounds_toArray, List.set_cons_zero, List.set_cons_succ]
  refine wpAnyH_ready (rs := [19]) (by kernel_rfl) (by simp) ?_
  refine AllReadyH.cons rfl (fun K hK => ?_) AllReadyH.nil
  go_simp
  go_wp2_with (go_at_call 29; refine (refLay_octs5 p.data.length 1 w3).mono ?_; rintro e w4 ⟨v4, rfl, ho, -, hb⟩; rw [show cl 1 8 = 1 by decide] at ho; have HO44 : Hid (Octs w4 v4 (octZ p.data.length 1)) := ho; have HB4 : Hid (Below V.heap.size V w4) := HB3.out.trans (hb.mono HB3.out.size); have HO14 : Hid (Octs w4 v1 (octZ p.epoch 4)) := HO13.out.kept hb; have HO24 : Hid (Octs w4 v2 (octZ p.number 4)) := HO23.out.kept hb; have HO34 : Hid (Octs w4 v3 (octZ p.index 2)) := HO33.out.kept hb; clear hb ho)
  refine hK.out _ _ (⟨⟨⟨HE.out _ HB4.out, conv_octs (P := Tryd.prog) HO14.out _ _ _ Tryd.underlying22 Tryd.underlying5 Tryd.underlying9⟩, conv_octs (P := Tryd.prog) HO24.out _ _ _ Tryd.underlying22 Tryd.underlying5 Tryd.underlying9⟩, conv_octs (P := Tryd.prog) HO34.out _ _ _ Tryd.underlying22 Tryd.underlying5 Tryd.underlying9⟩) (fun _ => ?_)
  clear hK K hHeld
  refine wpAnyH_stronger (S' := fun w' : World => (((((w'.cell? ⟨w.heap.size, 0, none⟩ = some (.bool true) ∧ w'.cell? ⟨w.heap.size, 1, none⟩ = some (.int .i64 p.epoch) ∧ w'.cell? ⟨w.heap.size, 2, none⟩ = some (.int .i64 p.number) ∧ w'.cell? ⟨w.heap.size, 3, none⟩ = some (.int .i64 p.index) ∧ w'.cell? ⟨w.heap.size, 4, none⟩ = some (.slice a p.data.length cap) ∧ (convert 22 9 (.slice a p.data.length cap)).run Tryd.prog w' = .ok (.string (strN p.data)) w') ∧ (convert 22 9 v1).run Tryd.prog w' = .ok (.string (strN (octZ p.epoch 4))) w') ∧ (convert 22 9 v2).run Tryd.prog w' = .ok (.string (strN (octZ p.number 4))) w') ∧ (convert 22 9 v3).run Tryd.prog w' = .ok (.string (strN (octZ p.index 2))) w') ∧ (convert 22 9 v4).run Tryd.prog w' = .ok (.string (strN (octZ p.data.length 1))) w')) (fun _ h => h.1) _ _ _ _ ?_
  have hHeld : (fun w' : World => (((((w'.cell? ⟨w.heap.size, 0, none⟩ = some (.bool true) ∧ w'.cell? ⟨w.heap.size, 1, none⟩ = some (.int .i64 p.epoch) ∧ w'.cell? ⟨w.heap.size, 2, none⟩ = some (.int .i64 p.number) ∧ w'.cell? ⟨w.heap.size, 3, none⟩ = some (.int .i64 p.index) ∧ w'.cell? ⟨w.heap.size, 4, none⟩ = some (.slice a p.data.length cap) ∧ (convert 22 9 (.slice a p.data.length cap)).run Tryd.prog w' = .ok (.string (strN p.data)) w') ∧ (convert 22 9 v1).run Tryd.prog w' = .ok (.string (strN (octZ p.epoch 4))) w') ∧ (convert 22 9 v2).run Tryd.prog w' = .ok (.string (strN (octZ p.number 4))) w') ∧ (convert 22 9 v3).run Tryd.prog w' = .ok (.string (strN (octZ p.index 2))) w') ∧ (convert 22 9 v4).run Tryd.prog w' = .ok (.string (strN (octZ p.data.length 1))) w')) w4 := ⟨⟨⟨⟨HE.out _ HB4.out, conv_octs (P := Tryd.prog) HO14.out _ _ _ Tryd.underlying22 Tryd.underlying5 Tryd.underlying9⟩, conv_octs (P := Tryd.prog) HO24.out _ _ _ Tryd.underlying22 Tryd.underlying5 Tryd.underlying9⟩, conv_octs (P := Tryd.prog) HO34.out _ _ _ Tryd.underlying22 Tryd.underlying5 Tryd.underlying9⟩, conv_octs (P := Tryd.prog) HO44.out _ _ _ Tryd.underlying22 Tryd.underlying5 Tryd.underlying9⟩
  refine wpAnyH_take (i := 20) (v := .string (strN (octZ p.data.length 1))) rfl (by kernel_rfl) (by kernel_rfl) (by kernel_rfl) (fun _ _ _ h => h) (Or.inl ⟨by rfl, fun w' hSw => ?_⟩) hHeld ?_
  · dsimp only at hSw
    go_simp
  simp only [Act.put, List.getElem_toArray, List.getElem_cons_succ, List.getElem_cons_zero, List.setIfInBounds_toArray, List.set_cons_zero, List.set_cons_succ]
  refine wpAnyH_take (i := 21) (v := .string (strN A4)) rfl (by kernel_rfl) (by kernel_rfl) (by kernel_rfl) (fun _ _ _ h => h) (Or.inl ⟨by rfl, fun w' hSw => ?_⟩) hHeld ?_
  · dsimp only at hSw
    go_simp
  simp only [Act.put, List.getElem_toArray, List.getElem_cons_succ, List.getElem_cons_zero, List.setIfInBounds_toArray, List.set_cons_zero, List.set_cons_succ]
  refine wpAnyH_take (i := 25) (v := .string (strN A5)) rfl (by kernel_rfl) (by kernel_rfl) (by kernel_rfl) (fun _ _ _ h => h) (Or.inl ⟨by rfl, fun w' hSw => ?_⟩) hHeld ?_
  · dsimp only at hSw
    go_simp
  simp only [Act.put, List.getElem_toArray, List.getElem_cons_succ, List.getElem_cons_zero, List.setIfInBounds_toArray, List.set_cons_zero, List.set_cons_succ]
  refine wpAnyH_take (i := 26) (v := .string (strN A5)) rfl (by kernel_rfl) (by kernel_rfl) (by kernel_rfl) (fun _ _ _ h => h) (Or.inl ⟨by rfl, fun w' hSw => ?_⟩) hHeld ?_
  · dsimp only at hSw
    go_simp
  simp only [Act.put, List.getElem_toArray, List.getElem_cons_succ, List.getElem_cons_zero, List.setIfInBounds_toArray, List.set_cons_zero, List.set_cons_succ]
  refine wpAnyH_done (by kernel_rfl) ?_ _
  have HBw : Hid (Below w.heap.size w w4) := W2.out.trans (HB4.out.mono W2.out.size)
  clear HO11 HO12 HO13 HO14 HO22 HO23 HO24 HO33 HO34 HO44 HB1 HB2 HB3 HB4 hHeld HE hA1 hA2 hA3 hA4 hA5 z0 z1 z2 z3 z4 y1 y2 y3 y4 y5 W1 W2 W3
  obtain ⟨m, hm⟩ : ∃ m, m = 112 - p.data.length := ⟨_, rfl⟩
  rw [← hm] at HBE
  have em1 : IntKind.i64.wrap (124 - (12 + (p.data.length : Int))) = (m : Nat) := by rw [IntKind.wrap_i64]; omega
  have em2 : IntKind.i64.wrap (124 - ((12 + p.data.length : Nat) : Int)) = (m : Nat) := by rw [IntKind.wrap_i64]; omega
  have em3 : wrap64 (124 - (12 + (p.data.length : Int))) = (m : Nat) := by unfold wrap64; omega
  have hmk : ∀ W : World, (Instr.makeSlice 22 (.int .i64 (m : Nat)) (.int .i64 (m : Nat))).run Tryd.prog W = .ok (.slice (some ⟨W.heap.size, 0, none⟩) m m) (W.alloc (.cells (u8s (zl m)).toArray 5)) := Tryd.make5 m (by omega)
  have HCZ : Hid (∀ W : World, (convert 22 9 (.slice (some ⟨W.heap.size, 0, none⟩) m m)).run Tryd.prog (W.alloc (.cells (u8s (zl m)).toArray 5)) = .ok (.string (strN (zl m))) (W.alloc (.cells (u8s (zl m)).toArray 5))) := fun W => conv_octs (P := Tryd.prog) (octs_row0 (heap_alloc_new _ _) (zl_small _) (zl_length _) (by unfold maxLen; omega)) _ _ _ Tryd.underlying22 Tryd.underlying5 Tryd.underlying9
  have hcm := HCZ.out
  have hlZ : (strN (zl m)).size = m := by rw [strN_size, zl_length]
  have hs2 : strN A5 ++ strN (zl m) = strN Bd := by rw [strN_append, HBE.out]
  generalize zl m = Z at *
  have zm : 12 + p.data.length + m ≤ 9223372036854775807 := by omega
  have hback : ∀ W : World, (convert 9 22 (.string (strN Bd))).run Tryd.prog W = .ok (.slice (some ⟨W.heap.size, 0, none⟩) 124 (grownCap W 124 0 5)) (Lib.bytesWorld W 5 (strN Bd)) := fun W => by
    have := (conv_back6 W Bd HBS.out (by rw [HBL.out]; decide)).1
    rwa [HBL.out] at this
  have HBKA : Hid (∀ W : World, Octs (Lib.bytesWorld (W.alloc (.cells (u8s Z).toArray 5)) 5 (strN Bd)) (.slice (some ⟨W.heap.size + 1, 0, none⟩) 124 (grownCap (W.alloc (.cells (u8s Z).toArray 5)) 124 0 5)) Bd) := fun W => by
    have := (conv_back6 (W.alloc (.cells (u8s Z).toArray 5)) Bd HBS.out (by rw [HBL.out]; decide)).2.1
    rwa [HBL.out, show (W.alloc (.cells (u8s Z).toArray 5)).heap.size = W.heap.size + 1 by simp] at this
  have HBKB : Hid (∀ W : World, Below W.heap.size W (Lib.bytesWorld (W.alloc (.cells (u8s Z).toArray 5)) 5 (strN Bd))) := fun W => ((Below.refl _ _).alloc (Nat.le_refl _) _).trans ((conv_back6 (W.alloc (.cells (u8s Z).toArray 5)) Bd HBS.out (by rw [HBL.out]; decide)).2.2.mono (by simp))
  clear hm HBE
  go_wp2_with fail
  refine (refSeal_octs _ Bd (Lib.bytesWorld (w4.alloc (.cells (u8s Z).toArray 5)) 5 (strN Bd)) (HBKA.out w4) (by rw [HBL.out]; decide)).mono ?_
  rintro e w9 ⟨rfl, hb9⟩
  rw [← HSE.out]
  have HB9 : Hid (Below w4.heap.size w4 w9) := (HBKB.out w4).trans (hb9.mono (HBKB.out w4).size)
  clear hb9
  go_wp2
  go_ret
  exact ⟨rfl, HBw.out.trans (HB9.out.mono HBw.out.size)⟩

set_option maxHeartbeats 600000 in
set_option maxRecDepth 20000 in
theorem refPut6_false (p : Part) (v : Value) (w : World) (hft : p.foot = false) (hr : okP p = true) (ho : Octs w v p.data) : Calls Tryd.prog 13 #[pval p v] w fun e w' => e = .returned (.string (strN (sect6 p))) ∧ Below w.heap.size w w' := by
  have hd := (okP_right.1 hr).data
  have hsm := ho.small
  have HO : Hid (Octs w v p.data) := ho
  obtain ⟨a, cap, rfl⟩ := ho.shape
  have hh : headOct p.foot = 80 := by rw [hft]; rfl
  have hA1 : (⟨#[80]⟩ : ByteArray) ++ strN (octZ p.epoch 4) = strN ([headOct p.foot] ++ octZ p.epoch 4) := by rw [str80, hh]; exact strN_append _ _
  have hA2 : strN ([headOct p.foot] ++ octZ p.epoch 4) ++ strN (octZ p.number 4) = strN ([headOct p.foot] ++ octZ p.epoch 4 ++ octZ p.number 4) := strN_append _ _
  have hA3 : strN ([headOct p.foot] ++ octZ p.epoch 4 ++ octZ p.number 4) ++ strN (octZ p.index 2) = strN ([headOct p.foot] ++ octZ p.epoch 4 ++ octZ p.number 4 ++ octZ p.index 2) := strN_append _ _
  have hA4 : strN ([headOct p.foot] ++ octZ p.epoch 4 ++ octZ p.number 4 ++ octZ p.index 2) ++ strN (octZ p.data.length 1) = strN (pre6 p) := by rw [strN_append]; unfold pre6; simp only [List.append_assoc]
  have hA5 : strN (pre6 p) ++ strN p.data = strN (pre6 p ++ p.data) := strN_append _ _
  have HBE : Hid ((pre6 p ++ p.data) ++ zl (112 - p.data.length) = body6 p) := by unfold Hid body6; rw [List.append_assoc]
  have z0 : (⟨#[80]⟩ : ByteArray).size = 1 := rfl
  have z1 : (strN ([headOct p.foot] ++ octZ p.epoch 4)).size = 5 := by rw [strN_size]; simp [octZ_length]
  have z2 : (strN ([headOct p.foot] ++ octZ p.epoch 4 ++ octZ p.number 4)).size = 9 := by rw [strN_size]; simp [octZ_length]
  have z3 : (strN ([headOct p.foot] ++ octZ p.epoch 4 ++ octZ p.number 4 ++ octZ p.index 2)).size = 11 := by rw [strN_size]; simp [octZ_length]
  have z4 : (strN (pre6 p)).size = 12 := by rw [strN_size, pre6_length]
  have z5 : (strN (pre6 p ++ p.data)).size = 12 + p.data.length := by rw [strN_size, List.length_append, pre6_length]
  have zb : 12 + p.data.length ≤ 9223372036854775807 := by omega
  have y1 : (strN (octZ p.epoch 4)).size = 4 := by rw [strN_size, octZ_length]
  have y2 : (strN (octZ p.number 4)).size = 4 := by rw [strN_size, octZ_length]
  have y3 : (strN (octZ p.index 2)).size = 2 := by rw [strN_size, octZ_length]
  have y4 : (strN (octZ p.data.length 1)).size = 1 := by rw [strN_size, octZ_length]
  have y5 : (strN p.data).size = p.data.length := strN_size _
  have HSE : Hid (sect6 p = body6 p ++ octN (crcSum (body6 p))) := rfl
  have HBS : Hid (∀ z ∈ body6 p, z < 256) := body6_small p hsm
  have HBL : Hid ((body6 p).length = 124) := body6_length p hd
  have W1 : Hid (PartAt (w.alloc (.cells #[.bool false, .int .i64 p.epoch, .int .i64 p.number, .int .i64 p.index, .slice a p.data.length cap] 24)) w.heap.size p (.slice a p.data.length cap)) := by unfold Hid PartAt; rw [hft]; exact heap_alloc_new w _
  have W2 : Hid (Below w.heap.size w (w.alloc (.cells #[.bool false, .int .i64 p.epoch, .int .i64 p.number, .int .i64 p.index, .slice a p.data.length cap] 24))) := (Below.refl _ _).alloc (Nat.le_refl _) _
  have W3 : Hid (Octs (w.alloc (.cells #[.bool false, .int .i64 p.epoch, .int .i64 p.number, .int .i64 p.index, .slice a p.data.length cap] 24)) (.slice a p.data.length cap) p.data) := HO.out.alloc _
  clear ho hr hsm HO hh
  generalize body6 p = Bd at *
  generalize pre6 p ++ p.data = A5 at *
  generalize pre6 p = A4 at *
  generalize [headOct p.foot] ++ octZ p.epoch 4 ++ octZ p.number 4 ++ octZ p.index 2 = A3 at *
  generalize [headOct p.foot] ++ octZ p.epoch 4 ++ octZ p.number 4 = A2 at *
  generalize [headOct p.foot] ++ octZ p.epoch 4 = A1 at *
  have hcf : (w.alloc (.cells #[.bool false, .int .i64 p.epoch, .int .i64 p.number, .int .i64 p.index, .slice a p.data.length cap] 24)).cell? ⟨w.heap.size, 0, none⟩ = some (.bool false) := by rw [W1.out.cells.1, hft]
  go_enter Tryd.func13, Tryd.ntmps13
  go_wp2_with fail
  generalize w.alloc (.cells #[.bool false, .int .i64 p.epoch, .int .i64 p.number, .int .i64 p.index, .slice a p.data.length cap] 24) = V at *
  have HE : Hid (∀ w', Below V.heap.size V w' → w'.cell? ⟨w.heap.size, 0, none⟩ = some (.bool false) ∧ w'.cell? ⟨w.heap.size, 1, none⟩ = some (.int .i64 p.epoch) ∧ w'.cell? ⟨w.heap.size, 2, none⟩ = some (.int .i64 p.number) ∧ w'.cell? ⟨w.heap.size, 3, none⟩ = some (.int .i64 p.index) ∧ w'.cell? ⟨w.heap.size, 4, none⟩ = some (.slice a p.data.length cap) ∧ (convert 22 9 (.slice a p.data.length cap)).run Tryd.prog w' = .ok (.string (strN p.data)) w') := fun w' h => by
    obtain ⟨c0, c1, c2, c3, c4⟩ := (W1.out.same h W1.out.lt).cells
    rw [hft] at c0
    exact ⟨c0, c1, c2, c3, c4, conv_octs (P := Tryd.prog) (W3.out.kept h) _ _ _ Tryd.underlying22 Tryd.underlying5 Tryd.underlying9⟩
  clear hcf
  refine wp_region_held_drew (S := fun w' : World => w'.cell? ⟨w.heap.size, 0, none⟩ = some (.bool false) ∧ w'.cell? ⟨w.heap.size, 1, none⟩ = some (.int .i64 p.epoch) ∧ w'.cell? ⟨w.heap.size, 2, none⟩ = some (.int .i64 p.number) ∧ w'.cell? ⟨w.heap.size, 3, none⟩ = some (.int .i64 p.index) ∧ w'.cell? ⟨w.heap.size, 4, none⟩ = some (.slice a p.data.length cap) ∧ (convert 22 9 (.slice a p.data.length cap)).run Tryd.prog w' = .ok (.string (strN p.data)) w') (by kernel_rfl) (HE.out _ (Below.refl _ _).drew) (fun hHeld => ?_)
  refine wpAnyH_take (i := 0) (v := .string ⟨#[80]⟩) rfl (by kernel_rfl) (by kernel_rfl) (by kernel_rfl) (fun _ _ _ h => h) (Or.inl ⟨by rfl, fun w' hSw => ?_⟩) hHeld ?_
  · dsimp only at hSw
    go_simp
  simp only [Act.put, List.getElem_toArray, List.getElem_cons_zero, List.setIfInBounds_toArray, List.set_cons_zero, List.set_cons_succ]
  refine wpAnyH_take (i := 1) (v := .pointer (some ⟨w.heap.size, 1, none⟩)) rfl (by kernel_rfl) (by kernel_rfl) (by kernel_rfl) (fun _ _ _ h => h) (Or.inl ⟨by rfl, fun w' hSw => ?_⟩) hHeld ?_
  · dsimp only at hSw
    go_simp
  simp only [Act.put, List.getElem_toArray, List.getElem_cons_succ, List.getElem_cons_zero, List.setIfInBounds_toArray, List.set_cons_zero, List.set_cons_succ]
  refine wpAnyH_take (i := 2) (v := .int .i64 p.epoch) rfl (by kernel_rfl) (by kernel_rfl) (by kernel_rfl) (fun _ _ _ h => h) (Or.inl ⟨by rfl, fun w' hSw => ?_⟩) hHeld ?_
  · dsimp only at hSw
    go_simp
  simp only [Act.put, List.getElem_toArray, List.getElem_cons_succ, List.getElem_cons_zero, List.setIfInBounds_toArray, List.set_cons_zero, List.set_cons_succ]
  refine wpAnyH_take (i := 6) (v := .pointer (some ⟨w.heap.size, 2, none⟩)) rfl (by kernel_rfl) (by kernel_rfl) (by kernel_rfl) (fun _ _ _ h => h) (Or.inl ⟨by rfl, fun w' hSw => ?_⟩) hHeld ?_
  · dsimp only at hSw
    go_simp
  simp only [Act.put, List.getElem_toArray, List.getElem_cons_succ, List.getElem_cons_zero, List.setIfInBounds_toArray, List.set_cons_zero, List.set_cons_succ]
  refine wpAnyH_take (i := 7) (v := .int .i64 p.number) rfl (by kernel_rfl) (by kernel_rfl) (by kernel_rfl) (fun _ _ _ h => h) (Or.inl ⟨by rfl, fun w' hSw => ?_⟩) hHeld ?_
  · dsimp only at hSw
    go_simp
  simp only [Act.put, List.getElem_toArray, List.getElem_cons_succ, List.getElem_cons_zero, List.setIfInBounds_toArray, List.set_cons_zero, List.set_cons_succ]
  refine wpAnyH_take (i := 11) (v := .pointer (some ⟨w.heap.size, 3, none⟩)) rfl (by kernel_rfl) (by kernel_rfl) (by kernel_rfl) (fun _ _ _ h => h) (Or.inl ⟨by rfl, fun w' hSw => ?_⟩) hHeld ?_
  · dsimp only at hSw
    go_simp
  simp only [Act.put, List.getElem_toArray, List.getElem_cons_succ, List.getElem_cons_zero, List.setIfInBounds_toArray, List.set_cons_zero, List.set_cons_succ]
  refine wpAnyH_take (i := 12) (v := .int .i64 p.index) rfl (by kernel_rfl) (by kernel_rfl) (by kernel_rfl) (fun _ _ _ h => h) (Or.inl ⟨by rfl, fun w' hSw => ?_⟩) hHeld ?_
  · dsimp only at hSw
    go_simp
  simp only [Act.put, List.getElem_toArray, List.getElem_cons_succ, List.getElem_cons_zero, List.setIfInBounds_toArray, List.set_cons_zero, List.set_cons_succ]
  refine wpAnyH_take (i := 16) (v := .pointer (some ⟨w.heap.size, 4, none⟩)) rfl (by kernel_rfl) (by kernel_rfl) (by kernel_rfl) (fun _ _ _ h => h) (Or.inl ⟨by rfl, fun w' hSw => ?_⟩) hHeld ?_
  · dsimp only at hSw
    go_simp
  simp only [Act.put, List.getElem_toArray, List.getElem_cons_succ, List.getElem_cons_zero, List.setIfInBounds_toArray, List.set_cons_zero, List.set_cons_succ]
  refine wpAnyH_take (i := 17) (v := .slice a p.data.length cap) rfl (by kernel_rfl) (by kernel_rfl) (by kernel_rfl) (fun _ _ _ h => h) (Or.inl ⟨by rfl, fun w' hSw => ?_⟩) hHeld ?_
  · dsimp only at hSw
    go_simp
  simp only [Act.put, List.getElem_toArray, List.getElem_cons_succ, List.getElem_cons_zero, List.setIfInBounds_toArray, List.set_cons_zero, List.set_cons_succ]
  refine wpAnyH_take (i := 18) (v := .int .i64 p.data.length) rfl (by kernel_rfl) (by kernel_rfl) (by kernel_rfl) (fun _ _ _ h => h) (Or.inl ⟨by rfl, fun w' hSw => ?_⟩) hHeld ?_
  · dsimp only at hSw
    go_simp
  simp only [Act.put, List.getElem_toArray, List.getElem_cons_succ, List.getElem_cons_zero, List.setIfInBounds_toArray, List.set_cons_zero, List.set_cons_succ]
  refine wpAnyH_take (i := 22) (v := .pointer (some ⟨w.heap.size, 4, none⟩)) rfl (by kernel_rfl) (by kernel_rfl) (by kernel_rfl) (fun _ _ _ h => h) (Or.inl ⟨by rfl, fun w' hSw => ?_⟩) hHeld ?_
  · dsimp only at hSw
    go_simp
  simp only [Act.put, List.getElem_toArray, List.getElem_cons_succ, List.getElem_cons_zero, List.setIfInBounds_toArray, List.set_cons_zero, List.set_cons_succ]
  refine wpAnyH_take (i := 23) (v := .slice a p.data.length cap) rfl (by kernel_rfl) (by kernel_rfl) (by kernel_rfl) (fun _ _ _ h => h) (Or.inl ⟨by rfl, fun w' hSw => ?_⟩) hHeld ?_
  · dsimp only at hSw
    go_simp
  simp only [Act.put, List.getElem_toArray, List.getElem_cons_succ, List.getElem_cons_zero, List.setIfInBounds_toArray, List.set_cons_zero, List.set_cons_succ]
  refine wpAnyH_take (i := 24) (v := .string (strN p.data)) rfl (by kernel_rfl) (by kernel_rfl) (by kernel_rfl) (fun _ _ _ h => h) (Or.inl ⟨by rfl, fun w' hSw => ?_⟩) hHeld ?_
  · dsimp only at hSw
    go_simp
  simp only [Act.put, List.getElem_toArray, List.getElem_cons_succ, List.getElem_cons_zero, List.setIfInBounds_toArray, List.set_cons_zero, List.set_cons_succ]
  refine wpAnyH_ready (rs := [3]) (by kernel_rfl) (by simp) ?_
  refine AllReadyH.cons rfl (fun K hK => ?_) AllReadyH.nil
  go_simp
  go_wp2_with (go_at_call 29; refine (refLay_octs5 p.epoch 4 V.drew).mono ?_; rintro e w1 ⟨v1, rfl, ho, -, hb⟩; rw [show cl 4 8 = 4 by decide] at ho; have HO11 : Hid (Octs w1 v1 (octZ p.epoch 4)) := ho; have HB1 : Hid (Below V.heap.size V w1) := below_undrew hb; clear hb ho)
  refine hK.out _ _ (HE.out _ HB1.out) (fun _ => ?_)
  clear hK K hHeld
  refine wpAnyH_stronger (S' := fun w' : World => ((w'.cell? ⟨w.heap.size, 0, none⟩ = some (.bool false) ∧ w'.cell? ⟨w.heap.size, 1, none⟩ = some (.int .i64 p.epoch) ∧ w'.cell? ⟨w.heap.size, 2, none⟩ = some (.int .i64 p.number) ∧ w'.cell? ⟨w.heap.size, 3, none⟩ = some (.int .i64 p.index) ∧ w'.cell? ⟨w.heap.size, 4, none⟩ = some (.slice a p.data.length cap) ∧ (convert 22 9 (.slice a p.data.length cap)).run Tryd.prog w' = .ok (.string (strN p.data)) w') ∧ (convert 22 9 v1).run Tryd.prog w' = .ok (.string (strN (octZ p.epoch 4))) w')) (fun _ h => h.1) _ _ _ _ ?_
  have hHeld : (fun w' : World => ((w'.cell? ⟨w.heap.size, 0, none⟩ = some (.bool false) ∧ w'.cell? ⟨w.heap.size, 1, none⟩ = some (.int .i64 p.epoch) ∧ w'.cell? ⟨w.heap.size, 2, none⟩ = some (.int .i64 p.number) ∧ w'.cell? ⟨w.heap.size, 3, none⟩ = some (.int .i64 p.index) ∧ w'.cell? ⟨w.heap.size, 4, none⟩ = some (.slice a p.data.length cap) ∧ (convert 22 9 (.slice a p.data.length cap)).run Tryd.prog w' = .ok (.string (strN p.data)) w') ∧ (convert 22 9 v1).run Tryd.prog w' = .ok (.string (strN (octZ p.epoch 4))) w')) w1 := ⟨HE.out _ HB1.out, conv_octs (P := Tryd.prog) HO11.out _ _ _ Tryd.underlying22 Tryd.underlying5 Tryd.underlying9⟩
  refine wpAnyH_take (i := 4) (v := .string (strN (octZ p.epoch 4))) rfl (by kernel_rfl) (by kernel_rfl) (by kernel_rfl) (fun _ _ _ h => h) (Or.inl ⟨by rfl, fun w' hSw => ?_⟩) hHeld ?_
  · dsimp only at hSw
    go_simp
  simp only [Act.put, List.getElem_toArray, List.getElem_cons_succ, List.getElem_cons_zero, List.setIfInBounds_toArray, List.set_cons_zero, List.set_cons_succ]
  refine wpAnyH_take (i := 5) (v := .string (strN A1)) rfl (by kernel_rfl) (by kernel_rfl) (by kernel_rfl) (fun _ _ _ h => h) (Or.inl ⟨by rfl, fun w' hSw => ?_⟩) hHeld ?_
  · dsimp only at hSw
    go_simp
  simp only [Act.put, List.getElem_toArray, List.getElem_cons_succ, List.getElem_cons_zero, List.setIfInBounds_toArray, List.set_cons_zero, List.set_cons_succ]
  refine wpAnyH_ready (rs := [8]) (by kernel_rfl) (by simp) ?_
  refine AllReadyH.cons rfl (fun K hK => ?_) AllReadyH.nil
  go_simp
  go_wp2_with (go_at_call 29; refine (refLay_octs5 p.number 4 w1).mono ?_; rintro e w2 ⟨v2, rfl, ho, -, hb⟩; rw [show cl 4 8 = 4 by decide] at ho; have HO22 : Hid (Octs w2 v2 (octZ p.number 4)) := ho; have HB2 : Hid (Below V.heap.size V w2) := HB1.out.trans (hb.mono HB1.out.size); have HO12 : Hid (Octs w2 v1 (octZ p.epoch 4)) := HO11.out.kept hb; clear hb ho)
  refine hK.out _ _ (⟨HE.out _ HB2.out, conv_octs (P := Tryd.prog) HO12.out _ _ _ Tryd.underlying22 Tryd.underlying5 Tryd.underlying9⟩) (fun _ => ?_)
  clear hK K hHeld
  refine wpAnyH_stronger (S' := fun w' : World => (((w'.cell? ⟨w.heap.size, 0, none⟩ = some (.bool false) ∧ w'.cell? ⟨w.heap.size, 1, none⟩ = some (.int .i64 p.epoch) ∧ w'.cell? ⟨w.heap.size, 2, none⟩ = some (.int .i64 p.number) ∧ w'.cell? ⟨w.heap.size, 3, none⟩ = some (.int .i64 p.index) ∧ w'.cell? ⟨w.heap.size, 4, none⟩ = some (.slice a p.data.length cap) ∧ (convert 22 9 (.slice a p.data.length cap)).run Tryd.prog w' = .ok (.string (strN p.data)) w') ∧ (convert 22 9 v1).run Tryd.prog w' = .ok (.string (strN (octZ p.epoch 4))) w') ∧ (convert 22 9 v2).run Tryd.prog w' = .ok (.string (strN (octZ p.number 4))) w')) (fun _ h => h.1) _ _ _ _ ?_
  have hHeld : (fun w' : World => (((w'.cell? ⟨w.heap.size, 0, none⟩ = some (.bool false) ∧ w'.cell? ⟨w.heap.size, 1, none⟩ = some (.int .i64 p.epoch) ∧ w'.cell? ⟨w.heap.size, 2, none⟩ = some (.int .i64 p.number) ∧ w'.cell? ⟨w.heap.size, 3, none⟩ = some (.int .i64 p.index) ∧ w'.cell? ⟨w.heap.size, 4, none⟩ = some (.slice a p.data.length cap) ∧ (convert 22 9 (.slice a p.data.length cap)).run Tryd.prog w' = .ok (.string (strN p.data)) w') ∧ (convert 22 9 v1).run Tryd.prog w' = .ok (.string (strN (octZ p.epoch 4))) w') ∧ (convert 22 9 v2).run Tryd.prog w' = .ok (.string (strN (octZ p.number 4))) w')) w2 := ⟨⟨HE.out _ HB2.out, conv_octs (P := Tryd.prog) HO12.out _ _ _ Tryd.underlying22 Tryd.underlying5 Tryd.underlying9⟩, conv_octs (P := Tryd.prog) HO22.out _ _ _ Tryd.underlying22 Tryd.underlying5 Tryd.underlying9⟩
  refine wpAnyH_take (i := 9) (v := .string (strN (octZ p.number 4))) rfl (by kernel_rfl) (by kernel_rfl) (by kernel_rfl) (fun _ _ _ h => h) (Or.inl ⟨by rfl, fun w' hSw => ?_⟩) hHeld ?_
  · dsimp only at hSw
    go_simp
  simp only [Act.put, List.getElem_toArray, List.getElem_cons_succ, List.getElem_cons_zero, List.setIfInBounds_toArray, List.set_cons_zero, List.set_cons_succ]
  refine wpAnyH_take (i := 10) (v := .string (strN A2)) rfl (by kernel_rfl) (by kernel_rfl) (by kernel_rfl) (fun _ _ _ h => h) (Or.inl ⟨by rfl, fun w' hSw => ?_⟩) hHeld ?_
  · dsimp only at hSw
    go_simp
  simp only [Act.put, List.getElem_toArray, List.getElem_cons_succ, List.getElem_cons_zero, List.setIfInBounds_toArray, List.set_cons_zero, List.set_cons_succ]
  refine wpAnyH_ready (rs := [13]) (by kernel_rfl) (by simp) ?_
  refine AllReadyH.cons rfl (fun K hK => ?_) AllReadyH.nil
  go_simp
  go_wp2_with (go_at_call 29; refine (refLay_octs5 p.index 2 w2).mono ?_; rintro e w3 ⟨v3, rfl, ho, -, hb⟩; rw [show cl 2 8 = 2 by decide] at ho; have HO33 : Hid (Octs w3 v3 (octZ p.index 2)) := ho; have HB3 : Hid (Below V.heap.size V w3) := HB2.out.trans (hb.mono HB2.out.size); have HO13 : Hid (Octs w3 v1 (octZ p.epoch 4)) := HO12.out.kept hb; have HO23 : Hid (Octs w3 v2 (octZ p.number 4)) := HO22.out.kept hb; clear hb ho)
  refine hK.out _ _ (⟨⟨HE.out _ HB3.out, conv_octs (P := Tryd.prog) HO13.out _ _ _ Tryd.underlying22 Tryd.underlying5 Tryd.underlying9⟩, conv_octs (P := Tryd.prog) HO23.out _ _ _ Tryd.underlying22 Tryd.underlying5 Tryd.underlying9⟩) (fun _ => ?_)
  clear hK K hHeld
  refine wpAnyH_stronger (S' := fun w' : World => ((((w'.cell? ⟨w.heap.size, 0, none⟩ = some (.bool false) ∧ w'.cell? ⟨w.heap.size, 1, none⟩ = some (.int .i64 p.epoch) ∧ w'.cell? ⟨w.heap.size, 2, none⟩ = some (.int .i64 p.number) ∧ w'.cell? ⟨w.heap.size, 3, none⟩ = some (.int .i64 p.index) ∧ w'.cell? ⟨w.heap.size, 4, none⟩ = some (.slice a p.data.length cap) ∧ (convert 22 9 (.slice a p.data.length cap)).run Tryd.prog w' = .ok (.string (strN p.data)) w') ∧ (convert 22 9 v1).run Tryd.prog w' = .ok (.string (strN (octZ p.epoch 4))) w') ∧ (convert 22 9 v2).run Tryd.prog w' = .ok (.string (strN (octZ p.number 4))) w') ∧ (convert 22 9 v3).run Tryd.prog w' = .ok (.string (strN (octZ p.index 2))) w')) (fun _ h => h.1) _ _ _ _ ?_
  have hHeld : (fun w' : World => ((((w'.cell? ⟨w.heap.size, 0, none⟩ = some (.bool false) ∧ w'.cell? ⟨w.heap.size, 1, none⟩ = some (.int .i64 p.epoch) ∧ w'.cell? ⟨w.heap.size, 2, none⟩ = some (.int .i64 p.number) ∧ w'.cell? ⟨w.heap.size, 3, none⟩ = some (.int .i64 p.index) ∧ w'.cell? ⟨w.heap.size, 4, none⟩ = some (.slice a p.data.length cap) ∧ (convert 22 9 (.slice a p.data.length cap)).run Tryd.prog w' = .ok (.string (strN p.data)) w') ∧ (convert 22 9 v1).run Tryd.prog w' = .ok (.string (strN (octZ p.epoch 4))) w') ∧ (convert 22 9 v2).run Tryd.prog w' = .ok (.string (strN (octZ p.number 4))) w') ∧ (convert 22 9 v3).run Tryd.prog w' = .ok (.string (strN (octZ p.index 2))) w')) w3 := ⟨⟨⟨HE.out _ HB3.out, conv_octs (P := Tryd.prog) HO13.out _ _ _ Tryd.underlying22 Tryd.underlying5 Tryd.underlying9⟩, conv_octs (P := Tryd.prog) HO23.out _ _ _ Tryd.underlying22 Tryd.underlying5 Tryd.underlying9⟩, conv_octs (P := Tryd.prog) HO33.out _ _ _ Tryd.underlying22 Tryd.underlying5 Tryd.underlying9⟩
  refine wpAnyH_take (i := 14) (v := .string (strN (octZ p.index 2))) rfl (by kernel_rfl) (by kernel_rfl) (by kernel_rfl) (fun _ _ _ h => h) (Or.inl ⟨by rfl, fun w' hSw => ?_⟩) hHeld ?_
  · dsimp only at hSw
    go_simp
  simp only [Act.put, List.getElem_toArray, List.getElem_cons_succ, List.getElem_cons_zero, List.setIfInBounds_toArray, List.set_cons_zero, List.set_cons_succ]
  refine wpAnyH_take (i := 15) (v := .string (strN A3)) rfl (by kernel_rfl) (by kernel_rfl) (by kernel_rfl) (fun _ _ _ h => h) (Or.inl ⟨by rfl, fun w' hSw => ?_⟩) hHeld ?_
  · dsimp only at hSw
    go_simp
  simp only [Act.put, List.getElem_toArray, List.getElem_cons_succ, List.getElem_cons_zero, List.setIfInBounds_toArray, List.set_cons_zero, List.set_cons_succ]
  refine wpAnyH_ready (rs := [19]) (by kernel_rfl) (by simp) ?_
  refine AllReadyH.cons rfl (fun K hK => ?_) AllReadyH.nil
  go_simp
  go_wp2_with (go_at_call 29; refine (refLay_octs5 p.data.length 1 w3).mono ?_; rintro e w4 ⟨v4, rfl, ho, -, hb⟩; rw [show cl 1 8 = 1 by decide] at ho; have HO44 : Hid (Octs w4 v4 (octZ p.data.length 1)) := ho; have HB4 : Hid (Below V.heap.size V w4) := HB3.out.trans (hb.mono HB3.out.size); have HO14 : Hid (Octs w4 v1 (octZ p.epoch 4)) := HO13.out.kept hb; have HO24 : Hid (Octs w4 v2 (octZ p.number 4)) := HO23.out.kept hb; have HO34 : Hid (Octs w4 v3 (octZ p.index 2)) := HO33.out.kept hb; clear hb ho)
  refine hK.out _ _ (⟨⟨⟨HE.out _ HB4.out, conv_octs (P := Tryd.prog) HO14.out _ _ _ Tryd.underlying22 Tryd.underlying5 Tryd.underlying9⟩, conv_octs (P := Tryd.prog) HO24.out _ _ _ Tryd.underlying22 Tryd.underlying5 Tryd.underlying9⟩, conv_octs (P := Tryd.prog) HO34.out _ _ _ Tryd.underlying22 Tryd.underlying5 Tryd.underlying9⟩) (fun _ => ?_)
  clear hK K hHeld
  refine wpAnyH_stronger (S' := fun w' : World => (((((w'.cell? ⟨w.heap.size, 0, none⟩ = some (.bool false) ∧ w'.cell? ⟨w.heap.size, 1, none⟩ = some (.int .i64 p.epoch) ∧ w'.cell? ⟨w.heap.size, 2, none⟩ = some (.int .i64 p.number) ∧ w'.cell? ⟨w.heap.size, 3, none⟩ = some (.int .i64 p.index) ∧ w'.cell? ⟨w.heap.size, 4, none⟩ = some (.slice a p.data.length cap) ∧ (convert 22 9 (.slice a p.data.length cap)).run Tryd.prog w' = .ok (.string (strN p.data)) w') ∧ (convert 22 9 v1).run Tryd.prog w' = .ok (.string (strN (octZ p.epoch 4))) w') ∧ (convert 22 9 v2).run Tryd.prog w' = .ok (.string (strN (octZ p.number 4))) w') ∧ (convert 22 9 v3).run Tryd.prog w' = .ok (.string (strN (octZ p.index 2))) w') ∧ (convert 22 9 v4).run Tryd.prog w' = .ok (.string (strN (octZ p.data.length 1))) w')) (fun _ h => h.1) _ _ _ _ ?_
  have hHeld : (fun w' : World => (((((w'.cell? ⟨w.heap.size, 0, none⟩ = some (.bool false) ∧ w'.cell? ⟨w.heap.size, 1, none⟩ = some (.int .i64 p.epoch) ∧ w'.cell? ⟨w.heap.size, 2, none⟩ = some (.int .i64 p.number) ∧ w'.cell? ⟨w.heap.size, 3, none⟩ = some (.int .i64 p.index) ∧ w'.cell? ⟨w.heap.size, 4, none⟩ = some (.slice a p.data.length cap) ∧ (convert 22 9 (.slice a p.data.length cap)).run Tryd.prog w' = .ok (.string (strN p.data)) w') ∧ (convert 22 9 v1).run Tryd.prog w' = .ok (.string (strN (octZ p.epoch 4))) w') ∧ (convert 22 9 v2).run Tryd.prog w' = .ok (.string (strN (octZ p.number 4))) w') ∧ (convert 22 9 v3).run Tryd.prog w' = .ok (.string (strN (octZ p.index 2))) w') ∧ (convert 22 9 v4).run Tryd.prog w' = .ok (.string (strN (octZ p.data.length 1))) w')) w4 := ⟨⟨⟨⟨HE.out _ HB4.out, conv_octs (P := Tryd.prog) HO14.out _ _ _ Tryd.underlying22 Tryd.underlying5 Tryd.underlying9⟩, conv_octs (P := Tryd.prog) HO24.out _ _ _ Tryd.underlying22 Tryd.underlying5 Tryd.underlying9⟩, conv_octs (P := Tryd.prog) HO34.out _ _ _ Tryd.underlying22 Tryd.underlying5 Tryd.underlying9⟩, conv_octs (P := Tryd.prog) HO44.out _ _ _ Tryd.underlying22 Tryd.underlying5 Tryd.underlying9⟩
  refine wpAnyH_take (i := 20) (v := .string (strN (octZ p.data.length 1))) rfl (by kernel_rfl) (by kernel_rfl) (by kernel_rfl) (fun _ _ _ h => h) (Or.inl ⟨by rfl, fun w' hSw => ?_⟩) hHeld ?_
  · dsimp only at hSw
    go_simp
  simp only [Act.put, List.getElem_toArray, List.getElem_cons_succ, List.getElem_cons_zero, List.setIfInBounds_toArray, List.set_cons_zero, List.set_cons_succ]
  refine wpAnyH_take (i := 21) (v := .string (strN A4)) rfl (by kernel_rfl) (by kernel_rfl) (by kernel_rfl) (fun _ _ _ h => h) (Or.inl ⟨by rfl, fun w' hSw => ?_⟩) hHeld ?_
  · dsimp only at hSw
    go_simp
  simp only [Act.put, List.getElem_toArray, List.getElem_cons_succ, List.getElem_cons_zero, List.setIfInBounds_toArray, List.set_cons_zero, List.set_cons_succ]
  refine wpAnyH_take (i := 25) (v := .string (strN A5)) rfl (by kernel_rfl) (by kernel_rfl) (by kernel_rfl) (fun _ _ _ h => h) (Or.inl ⟨by rfl, fun w' hSw => ?_⟩) hHeld ?_
  · dsimp only at hSw
    go_simp
  simp only [Act.put, List.getElem_toArray, List.getElem_cons_succ, List.getElem_cons_zero, List.setIfInBounds_toArray, List.set_cons_zero, List.set_cons_succ]
  refine wpAnyH_take (i := 26) (v := .string (strN A5)) rfl (by kernel_rfl) (by kernel_rfl) (by kernel_rfl) (fun _ _ _ h => h) (Or.inl ⟨by rfl, fun w' hSw => ?_⟩) hHeld ?_
  · dsimp only at hSw
    go_simp
  simp only [Act.put, List.getElem_toArray, List.getElem_cons_succ, List.getElem_cons_zero, List.setIfInBounds_toArray, List.set_cons_zero, List.set_cons_succ]
  refine wpAnyH_done (by kernel_rfl) ?_ _
  have HBw : Hid (Below w.heap.size w w4) := W2.out.trans (HB4.out.mono W2.out.size)
  clear HO11 HO12 HO13 HO14 HO22 HO23 HO24 HO33 HO34 HO44 HB1 HB2 HB3 HB4 hHeld HE hA1 hA2 hA3 hA4 hA5 z0 z1 z2 z3 z4 y1 y2 y3 y4 y5 W1 W2 W3
  obtain ⟨m, hm⟩ : ∃ m, m = 112 - p.data.length := ⟨_, rfl⟩
  rw [← hm] at HBE
  have em1 : IntKind.i64.wrap (124 - (12 + (p.data.length : Int))) = (m : Nat) := by rw [IntKind.wrap_i64]; omega
  have em2 : IntKind.i64.wrap (124 - ((12 + p.data.length : Nat) : Int)) = (m : Nat) := by rw [IntKind.wrap_i64]; omega
  have em3 : wrap64 (124 - (12 + (p.data.length : Int))) = (m : Nat) := by unfold wrap64; omega
  have hmk : ∀ W : World, (Instr.makeSlice 22 (.int .i64 (m : Nat)) (.int .i64 (m : Nat))).run Tryd.prog W = .ok (.slice (some ⟨W.heap.size, 0, none⟩) m m) (W.alloc (.cells (u8s (zl m)).toArray 5)) := Tryd.make5 m (by omega)
  have HCZ : Hid (∀ W : World, (convert 22 9 (.slice (some ⟨W.heap.size, 0, none⟩) m m)).run Tryd.prog (W.alloc (.cells (u8s (zl m)).toArray 5)) = .ok (.string (strN (zl m))) (W.alloc (.cells (u8s (zl m)).toArray 5))) := fun W => conv_octs (P := Tryd.prog) (octs_row0 (heap_alloc_new _ _) (zl_small _) (zl_length _) (by unfold maxLen; omega)) _ _ _ Tryd.underlying22 Tryd.underlying5 Tryd.underlying9
  have hcm := HCZ.out
  have hlZ : (strN (zl m)).size = m := by rw [strN_size, zl_length]
  have hs2 : strN A5 ++ strN (zl m) = strN Bd := by rw [strN_append, HBE.out]
  generalize zl m = Z at *
  have zm : 12 + p.data.length + m ≤ 9223372036854775807 := by omega
  have hback : ∀ W : World, (convert 9 22 (.string (strN Bd))).run Tryd.prog W = .ok (.slice (some ⟨W.heap.size, 0, none⟩) 124 (grownCap W 124 0 5)) (Lib.bytesWorld W 5 (strN Bd)) := fun W => by
    have := (conv_back6 W Bd HBS.out (by rw [HBL.out]; decide)).1
    rwa [HBL.out] at this
  have HBKA : Hid (∀ W : World, Octs (Lib.bytesWorld (W.alloc (.cells (u8s Z).toArray 5)) 5 (strN Bd)) (.slice (some ⟨W.heap.size + 1, 0, none⟩) 124 (grownCap (W.alloc (.cells (u8s Z).toArray 5)) 124 0 5)) Bd) := fun W => by
    have := (conv_back6 (W.alloc (.cells (u8s Z).toArray 5)) Bd HBS.out (by rw [HBL.out]; decide)).2.1
    rwa [HBL.out, show (W.alloc (.cells (u8s Z).toArray 5)).heap.size = W.heap.size + 1 by simp] at this
  have HBKB : Hid (∀ W : World, Below W.heap.size W (Lib.bytesWorld (W.alloc (.cells (u8s Z).toArray 5)) 5 (strN Bd))) := fun W => ((Below.refl _ _).alloc (Nat.le_refl _) _).trans ((conv_back6 (W.alloc (.cells (u8s Z).toArray 5)) Bd HBS.out (by rw [HBL.out]; decide)).2.2.mono (by simp))
  clear hm HBE
  go_wp2_with fail
  refine (refSeal_octs _ Bd (Lib.bytesWorld (w4.alloc (.cells (u8s Z).toArray 5)) 5 (strN Bd)) (HBKA.out w4) (by rw [HBL.out]; decide)).mono ?_
  rintro e w9 ⟨rfl, hb9⟩
  rw [← HSE.out]
  have HB9 : Hid (Below w4.heap.size w4 w9) := (HBKB.out w4).trans (hb9.mono (HBKB.out w4).size)
  clear hb9
  go_wp2
  go_ret
  exact ⟨rfl, HBw.out.trans (HB9.out.mono HBw.out.size)⟩

theorem refPut6 (p : Part) (v : Value) (w : World) (hr : okP p = true) (ho : Octs w v p.data) : Calls Tryd.prog 13 #[pval p v] w fun e w' => e = .returned (.string (strN (sect6 p))) ∧ Below w.heap.size w w' := by
  cases h : p.foot with
  | true => exact refPut6_true p v w h hr ho
  | false => exact refPut6_false p v w h hr ho
end Go.Proofs.YtndeknkfljnjoaaDoor
