/- Contracts of the laws' first lines, of 'Seal' and of the reference's 'Seal' and 'All'. -/
import Derived.Test.YtfclhehpbniapaaDoorWalkSum
import Derived.Test.YtfclhehpbniapaaDoorAppOcts
import Derived.Test.YtfclhehpbniapaaDoorWalkGet
import Derived.Lib.SlBytesConst
namespace Go.Proofs.YtfclhehpbniapaaDoor
open Go.RowKit
set_option linter.unusedVariables false

theorem cell_new (w : World) (C : Array Value) (e : TypeId) (r : Nat × Nat) (j : Nat) : (w.alloc (.cells C e r)).cell? ⟨w.heap.size, j, none⟩ = C[j]? :=
  cell_of_row _ _ _ _ _ _ (heap_alloc_new w _)
theorem sum_nine : crcSum [49, 50, 51, 52, 53, 54, 55, 56, 57] = 3421780262 := by decide +kernel

/-- 'Sum' of one list, whose box was just laid. -/
theorem sum_box (w : World) (g : Nat) (hg : g = w.heap.size) (v : Value) (zs : List Nat) (h : Octs w v zs) (ht : Steps w) :
    Calls Tryd.prog 14 #[.slice (some ⟨g, 0, none⟩) 1 1] (w.alloc (.cells #[v] 24)) fun e w' => e = .returned (.int .u32 (crcSum zs : Nat)) ∧ w' = w.alloc (.cells #[v] 24) := by
  subst hg
  exact sum_one _ v zs _ (cell_new _ _ _ _ _) (h.alloc _) (ht.alloc _)
theorem octs_new (w : World) (zs : List Nat) (e : TypeId) (h : ∀ z ∈ zs, z < 256) (hl : zs.length ≤ maxLen := by decide) : Octs (w.alloc (.cells (u8s zs).toArray e)) (.slice (some ⟨w.heap.size, 0, none⟩) zs.length zs.length) zs := by
  refine ⟨h, hl, _, zs.length, rfl, Nat.le_refl _, hl, .inr ⟨_, rfl, .inr ⟨_, 0, rfl, by simp, ?_⟩⟩⟩
  intro j hj
  rw [cell_new, Nat.zero_add]
  simp [u8s, List.getElem?_eq_getElem hj]
theorem octs_four (w : World) (n : Nat) (e : TypeId) (o : Obj) : Octs ((w.alloc o).alloc (.cells (u8s (octN n)).toArray e)) (.slice (some ⟨w.heap.size + 1, 0, none⟩) 4 4) (octN n) := by
  have h := octs_new (w.alloc o) (octN n) e (octN_small n) (by simp [octN, maxLen])
  rw [show (w.alloc o).heap.size = w.heap.size + 1 by simp] at h
  exact h
theorem lay_four (n : Nat) (w : World) :
    Calls Tryd.prog 24 #[.int .i64 n, .int .i64 4] w fun e w' => e = .returned (.slice (some ⟨w.heap.size, 0, none⟩) 4 4) ∧ w' = w.alloc (.cells (u8s (octN n)).toArray 5) := by
  refine (lay_any n 4 w).mono ?_
  rintro e w' ⟨rfl, rfl⟩
  have e1 : cl 4 8 = 4 := by decide
  have e2 : (octL n 4).map (Value.int .u8) = u8s (octN n) := by
    simp [octL, List.range_succ, u8s, octN, octet]
  rw [e1, e2]
  exact ⟨rfl, rfl⟩

end Go.Proofs.YtfclhehpbniapaaDoor
