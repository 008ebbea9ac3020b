/- The document's Put of a list of mapped pages: its octets. (Written by wip/mk_refput11.py.) -/
import Derived.Test.YtfclhehpbniapaaMd11
import Derived.Test.YtfclhehpbniapaaRefRight11
import Derived.Test.YtfclhehpbniapaaStrOct
import Derived.Test.YtfclhehpbniapaaHeldMore
import Derived.Deep.DeepMust
namespace Go.Proofs.Ytfclhehpbniapaa
open Go.RowKit
set_option linter.unusedVariables false

/-- A mapped page's octets. -/
def recM (m : Md) : List Nat := octZ (numK m.k) 4 ++ octZ m.s 4 ++ octZ m.g 6 ++ octZ (m.u : Nat) 4
/-- A list's. -/
def putM (l : List Md) : List Nat := octZ (l.length : Nat) 4 ++ l.flatMap recM
theorem recM_length (m : Md) : (recM m).length = 18 := by simp [recM, octZ_length]
theorem recs_length (l : List Md) : (l.flatMap recM).length = 18 * l.length := by
  induction l with
  | nil => rfl
  | cons m r ih => rw [List.flatMap_cons, List.length_append, ih, recM_length, List.length_cons]; omega
theorem putM_length (l : List Md) : (putM l).length = 4 + 18 * l.length := by rw [putM, List.length_append, octZ_length, recs_length]
theorem recM_small (m : Md) : ∀ z ∈ recM m, z < 256 := by
  intro z hz
  simp only [recM, List.mem_append] at hz
  rcases hz with ((hz | hz) | hz) | hz <;> exact octZ_small _ _ z hz
theorem putM_small (l : List Md) : ∀ z ∈ putM l, z < 256 := by
  intro z hz
  simp only [putM, List.mem_append, List.mem_flatMap] at hz
  rcases hz with hz | ⟨m, _, hz⟩
  · exact octZ_small _ _ z hz
  · exact recM_small m z hz
/-- The octets of so many, behind how many there are. -/
def preM (l : List Md) (k : Nat) : List Nat := octZ (l.length : Nat) 4 ++ (l.take k).flatMap recM
theorem preM_succ {l : List Md} {k : Nat} {m : Md} (h : l[k]? = some m) : preM l (k + 1) = preM l k ++ recM m := by
  unfold preM
  rw [List.take_add_one, h]
  simp
theorem preM_length {l : List Md} {k : Nat} (h : k ≤ l.length) : (preM l k).length = 4 + 18 * k := by
  rw [preM, List.length_append, octZ_length, recs_length, List.length_take]
  omega
theorem ret_str {a b : ByteArray} (h : a = b) : Ending.returned (.string a) = .returned (.string b) := by rw [h]

set_option maxRecDepth 20000 in
set_option maxHeartbeats 2000000 in
theorem refPut11_any (w : World) (x : Value) (l : List Md) (hx : Els encM 5 w x l) (hu : ∀ m ∈ l, m.u < 4294967296) (hl0 : l.length ≤ 1000) :
    Calls Try.prog 9 #[x] w fun e w' => e = .returned (.string (strN (putM l))) ∧ Below w.heap.size w w' := by
  obtain ⟨a, ca, rfl⟩ := hx.shape
  obtain ⟨L, hn⟩ : ∃ L, L = l.length := ⟨_, rfl⟩
  rw [← hn] at hx hl0 ⊢
  have HN : Hid (L = l.length) := hn
  have HX : Hid (Els encM 5 w (.slice a L ca) l) := hx
  have HU : Hid (∀ m ∈ l, m.u < 4294967296) := hu
  clear hn hx hu
  go_enter Try.func9, Try.ntmps9
  go_wp2_with fail
  refine (refLay_octs5 (L : Nat) 4 _).mono ?_
  rintro e w1 ⟨v1, rfl, _, hcv1, hb1⟩
  rw [show cl 4 8 = 4 by decide] at hcv1
  have HB1 : Hid (Below w.heap.size w w1) := hb1
  have HP0 : Hid (octZ (L : Nat) 4 = preM l 0) := by rw [HN.out]; simp [Hid, preM]
  rw [HP0.out] at hcv1
  clear hb1
  go_wp2_with fail
  clear hcv1
  go_loopw [3, 4] (fun x i wr => ∃ k : Nat, i = .int .i64 (k : Nat) ∧ k ≤ L ∧ x = .string (strN (preM l k)) ∧ Hid (Below w.heap.size w wr)) (fun _ i _ => L - (intOf i).toNat)
  case atStart => exact ⟨0, rfl, Nat.zero_le _, rfl, HB1.out⟩
  case round =>
    obtain ⟨k, rfl, hk, rfl, HB⟩ := hrel
    by_cases hlt : k < L
    · obtain ⟨b, off, rfl, hb, hc⟩ := (HX.out.kept HB.out).md (by omega)
      obtain ⟨mh, mp, ms, mg, mu, hkk⟩ := md_at (xs := l) (j := k) (by rw [← HN.out]; exact hlt)
      obtain ⟨c0, c1, c2, c3, c4⟩ := hc k _ hkk
      have hmu : mu < 4294967296 := HU.out _ (List.mem_of_getElem? hkk)
      have HA4 : Hid (preM l (k + 1) = preM l k ++ recM ⟨mh, mp, ms, mg, mu⟩) := preM_succ hkk
      have z0 : (strN (preM l k)).size = 4 + 18 * k := by rw [strN_size]; exact preM_length (by rw [← HN.out]; exact hk)
      have HNUM : Hid (∀ W, Calls Try.prog 28 #[.agg #[.int .i64 mh, .int .i64 mp]] W fun e w' => e = .returned (.int .i64 (numK (mh, mp))) ∧ Below W.heap.size W w') := fun W => refNumber_any mh mp W
      have hA4e : recM ⟨mh, mp, ms, mg, mu⟩ = octZ (numK (mh, mp)) 4 ++ octZ ms 4 ++ octZ mg 6 ++ octZ (mu : Nat) 4 := rfl
      rw [hA4e] at HA4
      simp only at c0 c1 c2 c3 c4
      clear hA4e hc hkk
      generalize numK (mh, mp) = N at *
      obtain ⟨V, hV⟩ : ∃ V, V = wr.alloc (.cells #[.int .i64 mh, .int .i64 mp, .int .i64 ms, .int .i64 mg, .int .u32 (mu : Nat)] 41) := ⟨_, rfl⟩
      obtain ⟨X, hXX⟩ : ∃ X, X = wr.heap.size := ⟨_, rfl⟩
      have hn5 := new_five wr (.int .i64 mh) (.int .i64 mp) (.int .i64 ms) (.int .i64 mg) (.int .u32 (mu : Nat)) 41
      rw [← hV, ← hXX] at hn5
      obtain ⟨d0, d1, d2, d3, d4⟩ := hn5
      have HBV : Hid (Below w.heap.size w V) := by rw [hV]; exact HB.out.alloc HB.out.size _
      generalize hA : preM l k = A0 at *
      have hA1 : strN A0 ++ strN (octZ N 4) = strN (A0 ++ octZ N 4) := strN_append _ _
      have hA2 : strN (A0 ++ octZ N 4) ++ strN (octZ ms 4) = strN (A0 ++ octZ N 4 ++ octZ ms 4) := strN_append _ _
      have hA3 : strN (A0 ++ octZ N 4 ++ octZ ms 4) ++ strN (octZ mg 6) = strN (A0 ++ octZ N 4 ++ octZ ms 4 ++ octZ mg 6) := strN_append _ _
      have hA4 : strN (A0 ++ octZ N 4 ++ octZ ms 4 ++ octZ mg 6) ++ strN (octZ (mu : Nat) 4) = strN (preM l (k + 1)) := by rw [strN_append, HA4.out]; simp only [List.append_assoc]
      have z1 : (strN (A0 ++ octZ N 4)).size = 8 + 18 * k := by rw [strN_size] at *; simp only [List.length_append, octZ_length]; omega
      have z2 : (strN (A0 ++ octZ N 4 ++ octZ ms 4)).size = 12 + 18 * k := by rw [strN_size] at *; simp only [List.length_append, octZ_length]; omega
      have z3 : (strN (A0 ++ octZ N 4 ++ octZ ms 4 ++ octZ mg 6)).size = 18 + 18 * k := by rw [strN_size] at *; simp only [List.length_append, octZ_length]; omega
      have z4 : (strN (preM l (k + 1))).size = 22 + 18 * k := by rw [HA4.out]; rw [strN_size] at *; simp only [List.length_append, octZ_length]; omega
      have y1 : (strN (octZ N 4)).size = 4 := by rw [strN_size, octZ_length]
      have y2 : (strN (octZ ms 4)).size = 4 := by rw [strN_size, octZ_length]
      have y3 : (strN (octZ mg 6)).size = 6 := by rw [strN_size, octZ_length]
      have y4 : (strN (octZ (mu : Nat) 4)).size = 4 := by rw [strN_size, octZ_length]
      clear HA4
      obtain ⟨A4, hA4q⟩ : ∃ A4, A4 = preM l (k + 1) := ⟨_, rfl⟩
      rw [← hA4q] at hA4 z4
      have HA4 : Hid (preM l (k + 1) = A4) := hA4q.symm
      clear hA4q hA
      generalize A0 ++ octZ N 4 ++ octZ ms 4 ++ octZ mg 6 = A3 at *
      generalize A0 ++ octZ N 4 ++ octZ ms 4 = A2 at *
      generalize A0 ++ octZ N 4 = A1 at *
      have HE : Hid (∀ w' : World, Below V.heap.size V w' → w'.cell? ⟨X, 0, none⟩ = some (.int .i64 mh) ∧ w'.cell? ⟨X, 1, none⟩ = some (.int .i64 mp) ∧ w'.cell? ⟨X, 2, none⟩ = some (.int .i64 ms) ∧ w'.cell? ⟨X, 3, none⟩ = some (.int .i64 mg) ∧ w'.cell? ⟨X, 4, none⟩ = some (.int .u32 (mu : Nat))) := fun w' h => ⟨(h.cell (block_lt_of_cell d0)).trans d0, (h.cell (block_lt_of_cell d1)).trans d1, (h.cell (block_lt_of_cell d2)).trans d2, (h.cell (block_lt_of_cell d3)).trans d3, (h.cell (block_lt_of_cell d4)).trans d4⟩
      have hwu : IntKind.i64.wrap (mu : Int) = (mu : Nat) := by rw [IntKind.wrap_i64]; omega
      go_wp2_with fail
      rw [← hV]
      try rw [← hXX]
      clear hV hXX d0 d1 d2 d3 d4 c0 c1 c2 c3 c4
      refine wp_region_held_drew (S := fun w' : World => w'.cell? ⟨X, 0, none⟩ = some (.int .i64 mh) ∧ w'.cell? ⟨X, 1, none⟩ = some (.int .i64 mp) ∧ w'.cell? ⟨X, 2, none⟩ = some (.int .i64 ms) ∧ w'.cell? ⟨X, 3, none⟩ = some (.int .i64 mg) ∧ w'.cell? ⟨X, 4, none⟩ = some (.int .u32 (mu : Nat))) (by kernel_rfl) (HE.out _ (Below.refl _ _).drew) (fun hHeld => ?_)
      refine wpAnyH_take (i := 0) (v := .string (strN A0)) rfl (by kernel_rfl) (by kernel_rfl) (by kernel_rfl) (fun _ _ _ h => h) (Or.inl ⟨by rfl, fun w' hSw => ?_⟩) hHeld ?_
      · dsimp only at hSw
        go_simp
      simp only [Act.put, List.getElem_toArray, List.getElem_cons_zero, List.setIfInBounds_toArray, List.set_cons_zero, List.set_cons_succ]
      refine wpAnyH_take (i := 1) (v := .pointer (some ⟨X, 0, none⟩)) rfl (by kernel_rfl) (by kernel_rfl) (by kernel_rfl) (fun _ _ _ h => h) (Or.inl ⟨by rfl, fun w' hSw => ?_⟩) hHeld ?_
      · dsimp only at hSw
        go_simp
      simp only [Act.put, List.getElem_toArray, List.getElem_cons_succ, List.getElem_cons_zero, List.setIfInBounds_toArray, List.set_cons_zero, List.set_cons_succ]
      refine wpAnyH_take (i := 2) (v := .agg #[.int .i64 mh, .int .i64 mp]) rfl (by kernel_rfl) (by kernel_rfl) (by kernel_rfl) (fun _ _ _ h => h) (Or.inl ⟨by rfl, fun w' hSw => ?_⟩) hHeld ?_
      · dsimp only at hSw
        go_simp
      simp only [Act.put, List.getElem_toArray, List.getElem_cons_succ, List.getElem_cons_zero, List.setIfInBounds_toArray, List.set_cons_zero, List.set_cons_succ]
      refine wpAnyH_take (i := 7) (v := .pointer (some ⟨X, 2, none⟩)) rfl (by kernel_rfl) (by kernel_rfl) (by kernel_rfl) (fun _ _ _ h => h) (Or.inl ⟨by rfl, fun w' hSw => ?_⟩) hHeld ?_
      · dsimp only at hSw
        go_simp
      simp only [Act.put, List.getElem_toArray, List.getElem_cons_succ, List.getElem_cons_zero, List.setIfInBounds_toArray, List.set_cons_zero, List.set_cons_succ]
      refine wpAnyH_take (i := 8) (v := .pointer (some ⟨X, 2, none⟩)) rfl (by kernel_rfl) (by kernel_rfl) (by kernel_rfl) (fun _ _ _ h => h) (Or.inl ⟨by rfl, fun w' hSw => ?_⟩) hHeld ?_
      · dsimp only at hSw
        go_simp
      simp only [Act.put, List.getElem_toArray, List.getElem_cons_succ, List.getElem_cons_zero, List.setIfInBounds_toArray, List.set_cons_zero, List.set_cons_succ]
      refine wpAnyH_take (i := 9) (v := .int .i64 ms) rfl (by kernel_rfl) (by kernel_rfl) (by kernel_rfl) (fun _ _ _ h => h) (Or.inl ⟨by rfl, fun w' hSw => ?_⟩) hHeld ?_
      · dsimp only at hSw
        go_simp
      simp only [Act.put, List.getElem_toArray, List.getElem_cons_succ, List.getElem_cons_zero, List.setIfInBounds_toArray, List.set_cons_zero, List.set_cons_succ]
      refine wpAnyH_take (i := 13) (v := .pointer (some ⟨X, 2, none⟩)) rfl (by kernel_rfl) (by kernel_rfl) (by kernel_rfl) (fun _ _ _ h => h) (Or.inl ⟨by rfl, fun w' hSw => ?_⟩) hHeld ?_
      · dsimp only at hSw
        go_simp
      simp only [Act.put, List.getElem_toArray, List.getElem_cons_succ, List.getElem_cons_zero, List.setIfInBounds_toArray, List.set_cons_zero, List.set_cons_succ]
      refine wpAnyH_take (i := 14) (v := .pointer (some ⟨X, 3, none⟩)) rfl (by kernel_rfl) (by kernel_rfl) (by kernel_rfl) (fun _ _ _ h => h) (Or.inl ⟨by rfl, fun w' hSw => ?_⟩) hHeld ?_
      · dsimp only at hSw
        go_simp
      simp only [Act.put, List.getElem_toArray, List.getElem_cons_succ, List.getElem_cons_zero, List.setIfInBounds_toArray, List.set_cons_zero, List.set_cons_succ]
      refine wpAnyH_take (i := 15) (v := .int .i64 mg) rfl (by kernel_rfl) (by kernel_rfl) (by kernel_rfl) (fun _ _ _ h => h) (Or.inl ⟨by rfl, fun w' hSw => ?_⟩) hHeld ?_
      · dsimp only at hSw
        go_simp
      simp only [Act.put, List.getElem_toArray, List.getElem_cons_succ, List.getElem_cons_zero, List.setIfInBounds_toArray, List.set_cons_zero, List.set_cons_succ]
      refine wpAnyH_take (i := 19) (v := .pointer (some ⟨X, 2, none⟩)) rfl (by kernel_rfl) (by kernel_rfl) (by kernel_rfl) (fun _ _ _ h => h) (Or.inl ⟨by rfl, fun w' hSw => ?_⟩) hHeld ?_
      · dsimp only at hSw
        go_simp
      simp only [Act.put, List.getElem_toArray, List.getElem_cons_succ, List.getElem_cons_zero, List.setIfInBounds_toArray, List.set_cons_zero, List.set_cons_succ]
      refine wpAnyH_take (i := 20) (v := .pointer (some ⟨X, 4, none⟩)) rfl (by kernel_rfl) (by kernel_rfl) (by kernel_rfl) (fun _ _ _ h => h) (Or.inl ⟨by rfl, fun w' hSw => ?_⟩) hHeld ?_
      · dsimp only at hSw
        go_simp
      simp only [Act.put, List.getElem_toArray, List.getElem_cons_succ, List.getElem_cons_zero, List.setIfInBounds_toArray, List.set_cons_zero, List.set_cons_succ]
      refine wpAnyH_take (i := 21) (v := .int .u32 (mu : Nat)) rfl (by kernel_rfl) (by kernel_rfl) (by kernel_rfl) (fun _ _ _ h => h) (Or.inl ⟨by rfl, fun w' hSw => ?_⟩) hHeld ?_
      · dsimp only at hSw
        go_simp
      simp only [Act.put, List.getElem_toArray, List.getElem_cons_succ, List.getElem_cons_zero, List.setIfInBounds_toArray, List.set_cons_zero, List.set_cons_succ]
      refine wpAnyH_take (i := 22) (v := .int .i64 (mu : Nat)) rfl (by kernel_rfl) (by kernel_rfl) (by kernel_rfl) (fun _ _ _ h => h) (Or.inl ⟨by rfl, fun w' hSw => ?_⟩) hHeld ?_
      · dsimp only at hSw
        go_simp
      simp only [Act.put, List.getElem_toArray, List.getElem_cons_succ, List.getElem_cons_zero, List.setIfInBounds_toArray, List.set_cons_zero, List.set_cons_succ]
      refine wpAnyH_ready (rs := [3]) (by kernel_rfl) (by simp) ?_
      refine AllReadyH.cons rfl (fun K hK => ?_) AllReadyH.nil
      go_simp
      go_wp2_with (go_at_call 28; refine (HNUM.out V.drew).mono ?_; rintro e w0 ⟨rfl, hb⟩; have HB0 : Hid (Below V.heap.size V w0) := below_undrew hb; clear hb)
      refine hK.out _ _ (HE.out _ HB0.out) (fun _ => ?_)
      clear hK K hHeld
      have hHeld : (fun w' : World => w'.cell? ⟨X, 0, none⟩ = some (.int .i64 mh) ∧ w'.cell? ⟨X, 1, none⟩ = some (.int .i64 mp) ∧ w'.cell? ⟨X, 2, none⟩ = some (.int .i64 ms) ∧ w'.cell? ⟨X, 3, none⟩ = some (.int .i64 mg) ∧ w'.cell? ⟨X, 4, none⟩ = some (.int .u32 (mu : Nat))) w0 := HE.out _ HB0.out
      refine wpAnyH_ready (rs := [4]) (by kernel_rfl) (by simp) ?_
      refine AllReadyH.cons rfl (fun K hK => ?_) AllReadyH.nil
      go_simp
      go_wp2_with (go_at_call 27; refine (refLay_octs5 N 4 w0).mono ?_; rintro e w1 ⟨v1, rfl, ho, -, hb⟩; rw [show cl 4 8 = 4 by decide] at ho; have HO11 : Hid (Octs w1 v1 (octZ N 4)) := ho; have HB1 : Hid (Below V.heap.size V w1) := HB0.out.trans (hb.mono HB0.out.size); clear hb ho)
      refine hK.out _ _ (HE.out _ HB1.out) (fun _ => ?_)
      clear hK K hHeld
      refine wpAnyH_stronger (S' := fun w' : World => ((w'.cell? ⟨X, 0, none⟩ = some (.int .i64 mh) ∧ w'.cell? ⟨X, 1, none⟩ = some (.int .i64 mp) ∧ w'.cell? ⟨X, 2, none⟩ = some (.int .i64 ms) ∧ w'.cell? ⟨X, 3, none⟩ = some (.int .i64 mg) ∧ w'.cell? ⟨X, 4, none⟩ = some (.int .u32 (mu : Nat))) ∧ (convert 23 9 v1).run Try.prog w' = .ok (.string (strN (octZ N 4))) w')) (fun _ h => h.1) _ _ _ _ ?_
      have hHeld : (fun w' : World => ((w'.cell? ⟨X, 0, none⟩ = some (.int .i64 mh) ∧ w'.cell? ⟨X, 1, none⟩ = some (.int .i64 mp) ∧ w'.cell? ⟨X, 2, none⟩ = some (.int .i64 ms) ∧ w'.cell? ⟨X, 3, none⟩ = some (.int .i64 mg) ∧ w'.cell? ⟨X, 4, none⟩ = some (.int .u32 (mu : Nat))) ∧ (convert 23 9 v1).run Try.prog w' = .ok (.string (strN (octZ N 4))) w')) w1 := ⟨HE.out _ HB1.out, conv_octs (P := Try.prog) HO11.out _ _ _ Try.underlying23 Try.underlying5 Try.underlying9⟩
      refine wpAnyH_take (i := 5) (v := .string (strN (octZ N 4))) rfl (by kernel_rfl) (by kernel_rfl) (by kernel_rfl) (fun _ _ _ h => h) (Or.inl ⟨by rfl, fun w' hSw => ?_⟩) hHeld ?_
      · dsimp only at hSw
        go_simp
      simp only [Act.put, List.getElem_toArray, List.getElem_cons_succ, List.getElem_cons_zero, List.setIfInBounds_toArray, List.set_cons_zero, List.set_cons_succ]
      refine wpAnyH_take (i := 6) (v := .string (strN A1)) rfl (by kernel_rfl) (by kernel_rfl) (by kernel_rfl) (fun _ _ _ h => h) (Or.inl ⟨by rfl, fun w' hSw => ?_⟩) hHeld ?_
      · dsimp only at hSw
        go_simp
        omega
      simp only [Act.put, List.getElem_toArray, List.getElem_cons_succ, List.getElem_cons_zero, List.setIfInBounds_toArray, List.set_cons_zero, List.set_cons_succ]
      refine wpAnyH_ready (rs := [10]) (by kernel_rfl) (by simp) ?_
      refine AllReadyH.cons rfl (fun K hK => ?_) AllReadyH.nil
      go_simp
      go_wp2_with (go_at_call 27; refine (refLay_octs5 ms 4 w1).mono ?_; rintro e w2 ⟨v2, rfl, ho, -, hb⟩; rw [show cl 4 8 = 4 by decide] at ho; have HO22 : Hid (Octs w2 v2 (octZ ms 4)) := ho; have HB2 : Hid (Below V.heap.size V w2) := HB1.out.trans (hb.mono HB1.out.size); have HO12 : Hid (Octs w2 v1 (octZ N 4)) := HO11.out.kept hb; clear hb ho)
      refine hK.out _ _ (⟨HE.out _ HB2.out, conv_octs (P := Try.prog) HO12.out _ _ _ Try.underlying23 Try.underlying5 Try.underlying9⟩) (fun _ => ?_)
      clear hK K hHeld
      refine wpAnyH_stronger (S' := fun w' : World => (((w'.cell? ⟨X, 0, none⟩ = some (.int .i64 mh) ∧ w'.cell? ⟨X, 1, none⟩ = some (.int .i64 mp) ∧ w'.cell? ⟨X, 2, none⟩ = some (.int .i64 ms) ∧ w'.cell? ⟨X, 3, none⟩ = some (.int .i64 mg) ∧ w'.cell? ⟨X, 4, none⟩ = some (.int .u32 (mu : Nat))) ∧ (convert 23 9 v1).run Try.prog w' = .ok (.string (strN (octZ N 4))) w') ∧ (convert 23 9 v2).run Try.prog w' = .ok (.string (strN (octZ ms 4))) w')) (fun _ h => h.1) _ _ _ _ ?_
      have hHeld : (fun w' : World => (((w'.cell? ⟨X, 0, none⟩ = some (.int .i64 mh) ∧ w'.cell? ⟨X, 1, none⟩ = some (.int .i64 mp) ∧ w'.cell? ⟨X, 2, none⟩ = some (.int .i64 ms) ∧ w'.cell? ⟨X, 3, none⟩ = some (.int .i64 mg) ∧ w'.cell? ⟨X, 4, none⟩ = some (.int .u32 (mu : Nat))) ∧ (convert 23 9 v1).run Try.prog w' = .ok (.string (strN (octZ N 4))) w') ∧ (convert 23 9 v2).run Try.prog w' = .ok (.string (strN (octZ ms 4))) w')) w2 := ⟨⟨HE.out _ HB2.out, conv_octs (P := Try.prog) HO12.out _ _ _ Try.underlying23 Try.underlying5 Try.underlying9⟩, conv_octs (P := Try.prog) HO22.out _ _ _ Try.underlying23 Try.underlying5 Try.underlying9⟩
      refine wpAnyH_take (i := 11) (v := .string (strN (octZ ms 4))) rfl (by kernel_rfl) (by kernel_rfl) (by kernel_rfl) (fun _ _ _ h => h) (Or.inl ⟨by rfl, fun w' hSw => ?_⟩) hHeld ?_
      · dsimp only at hSw
        go_simp
      simp only [Act.put, List.getElem_toArray, List.getElem_cons_succ, List.getElem_cons_zero, List.setIfInBounds_toArray, List.set_cons_zero, List.set_cons_succ]
      refine wpAnyH_take (i := 12) (v := .string (strN A2)) rfl (by kernel_rfl) (by kernel_rfl) (by kernel_rfl) (fun _ _ _ h => h) (Or.inl ⟨by rfl, fun w' hSw => ?_⟩) hHeld ?_
      · dsimp only at hSw
        go_simp
        omega
      simp only [Act.put, List.getElem_toArray, List.getElem_cons_succ, List.getElem_cons_zero, List.setIfInBounds_toArray, List.set_cons_zero, List.set_cons_succ]
      refine wpAnyH_ready (rs := [16]) (by kernel_rfl) (by simp) ?_
      refine AllReadyH.cons rfl (fun K hK => ?_) AllReadyH.nil
      go_simp
      go_wp2_with (go_at_call 27; refine (refLay_octs5 mg 6 w2).mono ?_; rintro e w3 ⟨v3, rfl, ho, -, hb⟩; rw [show cl 6 8 = 6 by decide] at ho; have HO33 : Hid (Octs w3 v3 (octZ mg 6)) := ho; have HB3 : Hid (Below V.heap.size V w3) := HB2.out.trans (hb.mono HB2.out.size); have HO13 : Hid (Octs w3 v1 (octZ N 4)) := HO12.out.kept hb; have HO23 : Hid (Octs w3 v2 (octZ ms 4)) := HO22.out.kept hb; clear hb ho)
      refine hK.out _ _ (⟨⟨HE.out _ HB3.out, conv_octs (P := Try.prog) HO13.out _ _ _ Try.underlying23 Try.underlying5 Try.underlying9⟩, conv_octs (P := Try.prog) HO23.out _ _ _ Try.underlying23 Try.underlying5 Try.underlying9⟩) (fun _ => ?_)
      clear hK K hHeld
      refine wpAnyH_stronger (S' := fun w' : World => ((((w'.cell? ⟨X, 0, none⟩ = some (.int .i64 mh) ∧ w'.cell? ⟨X, 1, none⟩ = some (.int .i64 mp) ∧ w'.cell? ⟨X, 2, none⟩ = some (.int .i64 ms) ∧ w'.cell? ⟨X, 3, none⟩ = some (.int .i64 mg) ∧ w'.cell? ⟨X, 4, none⟩ = some (.int .u32 (mu : Nat))) ∧ (convert 23 9 v1).run Try.prog w' = .ok (.string (strN (octZ N 4))) w') ∧ (convert 23 9 v2).run Try.prog w' = .ok (.string (strN (octZ ms 4))) w') ∧ (convert 23 9 v3).run Try.prog w' = .ok (.string (strN (octZ mg 6))) w')) (fun _ h => h.1) _ _ _ _ ?_
      have hHeld : (fun w' : World => ((((w'.cell? ⟨X, 0, none⟩ = some (.int .i64 mh) ∧ w'.cell? ⟨X, 1, none⟩ = some (.int .i64 mp) ∧ w'.cell? ⟨X, 2, none⟩ = some (.int .i64 ms) ∧ w'.cell? ⟨X, 3, none⟩ = some (.int .i64 mg) ∧ w'.cell? ⟨X, 4, none⟩ = some (.int .u32 (mu : Nat))) ∧ (convert 23 9 v1).run Try.prog w' = .ok (.string (strN (octZ N 4))) w') ∧ (convert 23 9 v2).run Try.prog w' = .ok (.string (strN (octZ ms 4))) w') ∧ (convert 23 9 v3).run Try.prog w' = .ok (.string (strN (octZ mg 6))) w')) w3 := ⟨⟨⟨HE.out _ HB3.out, conv_octs (P := Try.prog) HO13.out _ _ _ Try.underlying23 Try.underlying5 Try.underlying9⟩, conv_octs (P := Try.prog) HO23.out _ _ _ Try.underlying23 Try.underlying5 Try.underlying9⟩, conv_octs (P := Try.prog) HO33.out _ _ _ Try.underlying23 Try.underlying5 Try.underlying9⟩
      refine wpAnyH_take (i := 17) (v := .string (strN (octZ mg 6))) rfl (by kernel_rfl) (by kernel_rfl) (by kernel_rfl) (fun _ _ _ h => h) (Or.inl ⟨by rfl, fun w' hSw => ?_⟩) hHeld ?_
      · dsimp only at hSw
        go_simp
      simp only [Act.put, List.getElem_toArray, List.getElem_cons_succ, List.getElem_cons_zero, List.setIfInBounds_toArray, List.set_cons_zero, List.set_cons_succ]
      refine wpAnyH_take (i := 18) (v := .string (strN A3)) rfl (by kernel_rfl) (by kernel_rfl) (by kernel_rfl) (fun _ _ _ h => h) (Or.inl ⟨by rfl, fun w' hSw => ?_⟩) hHeld ?_
      · dsimp only at hSw
        go_simp
        omega
      simp only [Act.put, List.getElem_toArray, List.getElem_cons_succ, List.getElem_cons_zero, List.setIfInBounds_toArray, List.set_cons_zero, List.set_cons_succ]
      refine wpAnyH_ready (rs := [23]) (by kernel_rfl) (by simp) ?_
      refine AllReadyH.cons rfl (fun K hK => ?_) AllReadyH.nil
      go_simp
      go_wp2_with (go_at_call 27; refine (refLay_octs5 (mu : Nat) 4 w3).mono ?_; rintro e w4 ⟨v4, rfl, ho, -, hb⟩; rw [show cl 4 8 = 4 by decide] at ho; have HO44 : Hid (Octs w4 v4 (octZ (mu : Nat) 4)) := ho; have HB4 : Hid (Below V.heap.size V w4) := HB3.out.trans (hb.mono HB3.out.size); have HO14 : Hid (Octs w4 v1 (octZ N 4)) := HO13.out.kept hb; have HO24 : Hid (Octs w4 v2 (octZ ms 4)) := HO23.out.kept hb; have HO34 : Hid (Octs w4 v3 (octZ mg 6)) := HO33.out.kept hb; clear hb ho)
      refine hK.out _ _ (⟨⟨⟨HE.out _ HB4.out, conv_octs (P := Try.prog) HO14.out _ _ _ Try.underlying23 Try.underlying5 Try.underlying9⟩, conv_octs (P := Try.prog) HO24.out _ _ _ Try.underlying23 Try.underlying5 Try.underlying9⟩, conv_octs (P := Try.prog) HO34.out _ _ _ Try.underlying23 Try.underlying5 Try.underlying9⟩) (fun _ => ?_)
      clear hK K hHeld
      refine wpAnyH_stronger (S' := fun w' : World => (((((w'.cell? ⟨X, 0, none⟩ = some (.int .i64 mh) ∧ w'.cell? ⟨X, 1, none⟩ = some (.int .i64 mp) ∧ w'.cell? ⟨X, 2, none⟩ = some (.int .i64 ms) ∧ w'.cell? ⟨X, 3, none⟩ = some (.int .i64 mg) ∧ w'.cell? ⟨X, 4, none⟩ = some (.int .u32 (mu : Nat))) ∧ (convert 23 9 v1).run Try.prog w' = .ok (.string (strN (octZ N 4))) w') ∧ (convert 23 9 v2).run Try.prog w' = .ok (.string (strN (octZ ms 4))) w') ∧ (convert 23 9 v3).run Try.prog w' = .ok (.string (strN (octZ mg 6))) w') ∧ (convert 23 9 v4).run Try.prog w' = .ok (.string (strN (octZ (mu : Nat) 4))) w')) (fun _ h => h.1) _ _ _ _ ?_
      have hHeld : (fun w' : World => (((((w'.cell? ⟨X, 0, none⟩ = some (.int .i64 mh) ∧ w'.cell? ⟨X, 1, none⟩ = some (.int .i64 mp) ∧ w'.cell? ⟨X, 2, none⟩ = some (.int .i64 ms) ∧ w'.cell? ⟨X, 3, none⟩ = some (.int .i64 mg) ∧ w'.cell? ⟨X, 4, none⟩ = some (.int .u32 (mu : Nat))) ∧ (convert 23 9 v1).run Try.prog w' = .ok (.string (strN (octZ N 4))) w') ∧ (convert 23 9 v2).run Try.prog w' = .ok (.string (strN (octZ ms 4))) w') ∧ (convert 23 9 v3).run Try.prog w' = .ok (.string (strN (octZ mg 6))) w') ∧ (convert 23 9 v4).run Try.prog w' = .ok (.string (strN (octZ (mu : Nat) 4))) w')) w4 := ⟨⟨⟨⟨HE.out _ HB4.out, conv_octs (P := Try.prog) HO14.out _ _ _ Try.underlying23 Try.underlying5 Try.underlying9⟩, conv_octs (P := Try.prog) HO24.out _ _ _ Try.underlying23 Try.underlying5 Try.underlying9⟩, conv_octs (P := Try.prog) HO34.out _ _ _ Try.underlying23 Try.underlying5 Try.underlying9⟩, conv_octs (P := Try.prog) HO44.out _ _ _ Try.underlying23 Try.underlying5 Try.underlying9⟩
      refine wpAnyH_take (i := 24) (v := .string (strN (octZ (mu : Nat) 4))) rfl (by kernel_rfl) (by kernel_rfl) (by kernel_rfl) (fun _ _ _ h => h) (Or.inl ⟨by rfl, fun w' hSw => ?_⟩) hHeld ?_
      · dsimp only at hSw
        go_simp
      simp only [Act.put, List.getElem_toArray, List.getElem_cons_succ, List.getElem_cons_zero, List.setIfInBounds_toArray, List.set_cons_zero, List.set_cons_succ]
      refine wpAnyH_take (i := 25) (v := .string (strN A4)) rfl (by kernel_rfl) (by kernel_rfl) (by kernel_rfl) (fun _ _ _ h => h) (Or.inl ⟨by rfl, fun w' hSw => ?_⟩) hHeld ?_
      · dsimp only at hSw
        go_simp
        omega
      simp only [Act.put, List.getElem_toArray, List.getElem_cons_succ, List.getElem_cons_zero, List.setIfInBounds_toArray, List.set_cons_zero, List.set_cons_succ]
      refine wpAnyH_take (i := 26) (v := .string (strN A4)) rfl (by kernel_rfl) (by kernel_rfl) (by kernel_rfl) (fun _ _ _ h => h) (Or.inl ⟨by rfl, fun w' hSw => ?_⟩) hHeld ?_
      · dsimp only at hSw
        go_simp
      simp only [Act.put, List.getElem_toArray, List.getElem_cons_succ, List.getElem_cons_zero, List.setIfInBounds_toArray, List.set_cons_zero, List.set_cons_succ]
      refine wpAnyH_done (by kernel_rfl) ?_ _
      have HBw : Hid (Below w.heap.size w w4) := HBV.out.trans (HB4.out.mono HBV.out.size)
      clear HO11 HO12 HO13 HO14 HO22 HO23 HO24 HO33 HO34 HO44 HB0 HB1 HB2 HB3 HB4 hHeld HE hA1 hA2 hA3 hA4 z0 z1 z2 z3 z4 y1 y2 y3 y4
      go_wp2
      go_roundw
      case rel => exact ⟨k + 1, by go_num, by omega, by rw [HA4.out], HBw.out⟩
      case measure => simp [intOf]; omega
    · obtain rfl : k = L := by omega
      have HF : Hid (preM l k = putM l) := by
        unfold Hid preM putM
        rw [List.take_of_length_le (by rw [← HN.out]; omega)]
      go_wp2
      go_ret
      exact ⟨ret_str (by rw [HF.out]), HB.out⟩
end Go.Proofs.Ytfclhehpbniapaa
