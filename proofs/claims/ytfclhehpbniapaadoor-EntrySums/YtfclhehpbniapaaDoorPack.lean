/- A reading in memory: what a walk is told of one. -/
import Derived.Test.YtfclhehpbniapaaDoorKept
import Derived.Test.YtfclhehpbniapaaDoorProg
namespace Go.Proofs.YtfclhehpbniapaaDoor
open Go.RowKit
set_option linter.unusedVariables false

/-- A struct of two cells at block p. -/
def TwoAt (w : World) (p : Nat) (t : TypeId) (v0 v1 : Value) : Prop := w.heap[p]? = some (.cells #[v0, v1] t (0, 0))
theorem TwoAt.cell {w : World} {p : Nat} {t : TypeId} {v0 v1 : Value} (h : TwoAt w p t v0 v1) : w.cell? ⟨p, 0, none⟩ = some v0 ∧ w.cell? ⟨p, 1, none⟩ = some v1 := by
  unfold TwoAt at h
  refine ⟨?_, ?_⟩ <;> rw [cell_of_row w p _ _ _ _ h] <;> rfl
theorem TwoAt.frozen {w : World} {p : Nat} {t : TypeId} {v0 v1 : Value} (h : TwoAt w p t v0 v1) (i : Nat) : w.frozen? ⟨p, i, none⟩ = false := by
  simp [World.frozen?, show w.heap[p]? = _ from h]
theorem TwoAt.lt {w : World} {p : Nat} {t : TypeId} {v0 v1 : Value} (h : TwoAt w p t v0 v1) : p < w.heap.size := lt_of_heap h
theorem TwoAt.set0 {w : World} {p : Nat} {t : TypeId} {v0 v1 : Value} (h : TwoAt w p t v0 v1) (u : Value) : TwoAt (w.setCell ⟨p, 0, none⟩ u) p t u v1 := (heap_set_row h 0 u).trans rfl
theorem TwoAt.set1 {w : World} {p : Nat} {t : TypeId} {v0 v1 : Value} (h : TwoAt w p t v0 v1) (u : Value) : TwoAt (w.setCell ⟨p, 1, none⟩ u) p t v0 u := (heap_set_row h 1 u).trans rfl
theorem TwoAt.noOct {w : World} {p : Nat} {t : TypeId} {v0 v1 : Value} (h : TwoAt w p t v0 v1) (h0 : ∀ z, v0 ≠ .int .u8 z) (h1 : ∀ z, v1 ≠ .int .u8 z) : NoOct w p := by
  intro i z e
  unfold TwoAt at h
  rw [cell_of_row w p _ _ _ _ h] at e
  match i, e with
  | 0, e => exact h0 z (by simpa using e)
  | 1, e => exact h1 z (by simpa using e)
  | i + 2, e => simp at e

/-- What a reading is: the octets that are left; did it fail? -/
structure RS where
  zs : List Nat
  fail : Bool
/-- The reading at block p. -/
def IsR (w : World) (p : Nat) (s : RS) : Prop := ∃ v, TwoAt w p 62 v (.bool s.fail) ∧ Octs w v s.zs
theorem IsR.noOct {w : World} {p : Nat} {s : RS} (h : IsR w p s) : NoOct w p := by
  obtain ⟨v, h1, h2⟩ := h
  obtain ⟨a, cap, rfl⟩ := h2.shape
  exact h1.noOct (by simp) (by simp)
theorem IsR.lt {w : World} {p : Nat} {s : RS} (h : IsR w p s) : p < w.heap.size := by
  obtain ⟨v, h1, _⟩ := h
  exact h1.lt
theorem IsR.same {w w' : World} {p : Nat} {s : RS} (h : IsR w p s) (hb : Below w.heap.size w w') : IsR w' p s := by
  have hl := h.lt
  obtain ⟨v, h1, h2⟩ := h
  exact ⟨v, (hb.block p hl).trans h1, h2.kept hb⟩
theorem IsR.drew {w : World} {p : Nat} {s : RS} (h : IsR w p s) : IsR w.drew p s := h
theorem IsR.alloc {w : World} {p : Nat} {s : RS} (h : IsR w p s) (o : Obj) : IsR (w.alloc o) p s := h.same ((Below.refl _ _).alloc (Nat.le_refl _) o)
theorem IsR.len {w : World} {p : Nat} {s : RS} (h : IsR w p s) : s.zs.length ≤ 9223372036854775807 := by
  obtain ⟨v, h1, h2⟩ := h
  exact h2.len
theorem IsR.oct {w : World} {p : Nat} {s : RS} (h : IsR w p s) : ∀ z ∈ s.zs, z < 256 := by
  obtain ⟨v, h1, h2⟩ := h
  exact h2.small
/-- Another block than its own has turned, one that holds no octets. -/
theorem IsR.only {w w' : World} {p q : Nat} {s : RS} (h : IsR w p s) (hq : NoOct w q) (hn : p ≠ q) (ho : Only q w w') : IsR w' p s := by
  have hl := h.lt
  obtain ⟨v, h1, h2⟩ := h
  exact ⟨v, (ho.heap hl hn).trans h1, h2.only hq ho⟩
end Go.Proofs.YtfclhehpbniapaaDoor
