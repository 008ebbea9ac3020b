/- Contracts of the laws' first lines, of 'Seal' and of the reference's 'Seal' and 'All'. -/
import Derived.Test.YthhdkadjlddmkaaDoorWalkSum
import Derived.Test.YthhdkadjlddmkaaDoorAppOcts
import Derived.Test.YthhdkadjlddmkaaDoorWalkGet
import Derived.Lib.SlBytesConst
namespace Go.Proofs.YthhdkadjlddmkaaDoor
open Go.RowKit
set_option linter.unusedVariables false

theorem cell_new (w : World) (C : Array Value) (e : TypeId) (r : Nat × Nat) (j : Nat) : (w.alloc (.cells C e r)).cell? ⟨w.heap.size, j, none⟩ = C[j]? :=
  cell_of_row _ _ _ _ _ _ (heap_alloc_new w _)
theorem sum_nine : crcSum [49, 50, 51, 52, 53, 54, 55, 56, 57] = 3421780262 := by decide +kernel

/-- 'Sum' of one list, whose box was just laid. -/
theorem sum_box (w : World) (g : Nat) (hg : g = w.heap.size) (v : Value) (zs : List Nat) (h : Octs w v zs) (ht : Steps w) :
    Calls Tryd.prog 49 #[.slice (some ⟨g, 0, none⟩) 1 1] (w.alloc (.cells #[v] 32)) fun e w' => e = .returned (.int .u32 (crcSum zs : Nat)) ∧ w' = w.alloc (.cells #[v] 32) := by
  subst hg
  exact sum_one _ v zs _ (cell_new _ _ _ _ _) (h.alloc _) (ht.alloc _)
theorem octs_new (w : World) (zs : List Nat) (e : TypeId) (h : ∀ z ∈ zs, z < 256) (hl : zs.length ≤ maxLen := by decide) : Octs (w.alloc (.cells (u8s zs).toArray e)) (.slice (some ⟨w.heap.size, 0, none⟩) zs.length zs.length) zs := by
  refine ⟨h, hl, _, zs.length, rfl, Nat.le_refl _, hl, .inr ⟨_, rfl, .inr ⟨_, 0, rfl, by simp, ?_⟩⟩⟩
  intro j hj
  rw [cell_new, Nat.zero_add]
  simp [u8s, List.getElem?_eq_getElem hj]
theorem octs_four (w : World) (n : Nat) (e : TypeId) (o : Obj) : Octs ((w.alloc o).alloc (.cells (u8s (octN n)).toArray e)) (.slice (some ⟨w.heap.size + 1, 0, none⟩) 4 4) (octN n) := by
  have h := octs_new (w.alloc o) (octN n) e (octN_small n) (by simp [octN, maxLen])
  rw [show (w.alloc o).heap.size = w.heap.size + 1 by simp] at h
  exact h
theorem lay_four (n : Nat) (w : World) :
    Calls Tryd.prog 48 #[.int .i64 n, .int .i64 4] w fun e w' => e = .returned (.slice (some ⟨w.heap.size, 0, none⟩) 4 4) ∧ w' = w.alloc (.cells (u8s (octN n)).toArray 5) := by
  refine (lay_any n 4 w).mono ?_
  rintro e w' ⟨rfl, rfl⟩
  have e1 : cl 4 8 = 4 := by decide
  have e2 : (octL n 4).map (Value.int .u8) = u8s (octN n) := by
    simp [octL, List.range_succ, u8s, octN, octet]
  rw [e1, e2]
  exact ⟨rfl, rfl⟩

set_option maxHeartbeats 400000 in
theorem seal_any (a : Option Addr) (cap : Nat) (zs : List Nat) (w : World) (h : Octs w (.slice a zs.length cap) zs) (hlen : zs.length ≤ 100000) (ht : Steps w) :
    Calls Tryd.prog 54 #[.slice a zs.length cap] w fun e w' => ∃ v, e = .returned v ∧ Octs w' v (zs ++ octN (crcSum zs)) ∧ Below w.heap.size w w' := by
  obtain ⟨i0, hi, hz0, hz1, hz2⟩ := info_parts Tryd.infoU8'
  have HO : Hid (Octs w (.slice a zs.length cap) zs) := h
  have HT : Hid (Steps w) := ht
  have hs := crcSum_lt zs h.small
  clear h ht
  go_enter Tryd.func54, Tryd.ntmps54
  go_wp2_with (at_make; refine wpList_make_own _ rfl _ _ 32 rfl w.heap.size 5 i0 _ 1 Tryd.underlying32 hi hz0 hz1 .i64 .i64 _ (zs.length + 4) rfl rfl ?c1 ?c2 ?c3 ?c4 ?_)
  case c1 => omega
  case c2 => rw [hz2]; omega
  case c3 => unfold maxLen; omega
  case c4 => exact Nat.le_refl _
  intro w1 hown hg
  have hb1 : Below w.heap.size w w1 := (Below.refl _ _).grown hg (Nat.le_refl _) (fun k hk => by cases hk)
  have HB1 : Hid (Below w.heap.size w w1) := hb1
  have hsz : w.heap.size ≤ w1.heap.size := hb1.size
  clear hg hb1
  go_wp2_with (at_builtin; refine wpList_append_octs _ rfl _ _ 32 rfl w.heap.size 5 i0 Tryd.underlying32 hi hz0 hz1 hz2 _ 0 [] rfl hown _ zs rfl (HO.out.kept HB1.out) ?d1 ?d2 ?_)
  case d1 => omega
  case d2 => exact hsz
  intro v2 w2 hown2 hg2
  have HB2 : Hid (Below w.heap.size w w2) := HB1.out.trans (below_grown hown hg2 hsz)
  have hsz2 : w.heap.size ≤ w2.heap.size := HB2.out.size
  clear hown hg2
  go_wp2_with fail
  refine (sum_one _ (.slice a zs.length cap) zs _ (by simp) ((HO.out.kept HB2.out).alloc _) ((HT.out.below HB2.out).alloc _)).mono ?_
  rintro e w3 ⟨rfl, rfl⟩
  go_wp2_with fail
  refine (lay_four (crcSum zs) _).mono ?_
  rintro e w4 ⟨rfl, rfl⟩
  go_wp2_with (at_builtin; refine wpList_append_octs _ rfl _ _ 32 rfl w.heap.size 5 i0 Tryd.underlying32 hi hz0 hz1 hz2 _ zs.length zs rfl ((hown2.alloc _).alloc _) _ (octN (crcSum zs)) rfl (octs_four _ _ _ _) ?e1 ?e2 ?_)
  case e1 => simp [octN]; omega
  case e2 => simp; omega
  intro v5 w5 hown5 hg5
  have HO5 : Hid (Octs w5 v5 (zs ++ octN (crcSum zs))) := Octs.owned hown5 (fun z hz => by
    rcases List.mem_append.1 hz with h | h
    · exact HO.out.small z h
    · exact octN_small _ z h)
  have HB5 : Hid (Below w.heap.size w w5) := ((HB2.out.alloc hsz2 _).alloc (by simp; omega) _).trans (below_grown ((hown2.alloc _).alloc _) hg5 (by simp; omega))
  clear hown5 hg5 hown2
  go_wp2
  go_ret
  exact ⟨_, rfl, HO5.out, HB5.out⟩

theorem seal_octs (v : Value) (zs : List Nat) (w : World) (h : Octs w v zs) (hlen : zs.length ≤ 100000) (ht : Steps w) :
    Calls Tryd.prog 54 #[v] w fun e w' => ∃ a cap, e = .returned (.slice a (zs.length + 4) cap) ∧ Octs w' (.slice a (zs.length + 4) cap) (zs ++ octN (crcSum zs)) ∧ Below w.heap.size w w' := by
  obtain ⟨a, cap, rfl⟩ := h.shape
  refine (seal_any a cap zs w h hlen ht).mono ?_
  rintro e w' ⟨v, rfl, ho, hb⟩
  obtain ⟨a', cap', rfl⟩ := ho.shape
  have e : (zs ++ octN (crcSum zs)).length = zs.length + 4 := by simp [octN]
  rw [e] at ho ⊢
  exact ⟨a', cap', rfl, ho, hb⟩
end Go.Proofs.YthhdkadjlddmkaaDoor
