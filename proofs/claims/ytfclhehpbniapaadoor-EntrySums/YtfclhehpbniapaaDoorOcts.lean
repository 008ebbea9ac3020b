/- Slices of octets, however they came about: what a walk is told of one. Generic over the program. -/
import Derived.Test.YtfclhehpbniapaaDoorOpens
import Derived.Test.YtfclhehpbniapaaDoorMath
import Derived.Test.YtfclhehpbniapaaDoorTools
import Derived.Below
namespace Go.Proofs.YtfclhehpbniapaaDoor
open Go.RowKit
set_option linter.unusedVariables false

/-- Octets at a plain address. -/
def OctAt (w : World) (b off : Nat) (zs : List Nat) : Prop := ∀ j, j < zs.length → w.cell? ⟨b, off + j, none⟩ = some (.int .u8 (zs[j]?.getD 0 : Nat))

/-- The value is a slice whose elements are these octets: nil; or one with an address, of which, where there are elements, they are the cells. -/
def Octs (w : World) (v : Value) (zs : List Nat) : Prop :=
  (∀ z ∈ zs, z < 256) ∧ zs.length ≤ maxLen ∧ ∃ a cap, v = .slice a zs.length cap ∧ zs.length ≤ cap ∧ cap ≤ maxLen ∧
    ((a = none ∧ cap = 0) ∨ ∃ x, a = some x ∧ (zs = [] ∨ ∃ b off, x = ⟨b, off, none⟩ ∧ b < w.heap.size ∧ OctAt w b off zs))

theorem Octs.small {w : World} {v : Value} {zs : List Nat} (h : Octs w v zs) : ∀ z ∈ zs, z < 256 := h.1
theorem Octs.len {w : World} {v : Value} {zs : List Nat} (h : Octs w v zs) : zs.length ≤ 9223372036854775807 := by
  have := h.2.1; unfold maxLen at this; omega

theorem OctAt.kept {B : Nat} {w w' : World} {b off : Nat} {zs : List Nat} (h : OctAt w b off zs) (hb : Below B w w') (hB : b < B) : OctAt w' b off zs :=
  fun j hj => (hb.cell (p := ⟨b, off + j, none⟩) hB).trans (h j hj)
/-- Where nothing old has turned it reads as it did. -/
theorem Octs.kept {w w' : World} {v : Value} {zs : List Nat} (h : Octs w v zs) (hb : Below w.heap.size w w') : Octs w' v zs := by
  obtain ⟨h1, h2, a, cap, rfl, h3, h4, h5⟩ := h
  refine ⟨h1, h2, a, cap, rfl, h3, h4, ?_⟩
  rcases h5 with h5 | ⟨x, rfl, h5⟩
  · exact .inl h5
  · refine .inr ⟨x, rfl, ?_⟩
    rcases h5 with h5 | ⟨b, off, rfl, hlt, hc⟩
    · exact .inl h5
    · exact .inr ⟨b, off, rfl, Nat.lt_of_lt_of_le hlt hb.size, hc.kept hb hlt⟩
theorem Octs.drew {w : World} {v : Value} {zs : List Nat} (h : Octs w v zs) : Octs w.drew v zs := h
theorem Octs.alloc {w : World} {v : Value} {zs : List Nat} (h : Octs w v zs) (o : Obj) : Octs (w.alloc o) v zs := h.kept ((Below.refl _ _).alloc (Nat.le_refl _) o)

/-- A row that the call owns. -/
theorem Octs.ofOwn {w : World} {base : Nat} {e : TypeId} {v : Value} {n : Nat} {zs : List Nat} (h : w.ownsRow base e 1 v n (zs.map fun z => Value.int .u8 (z : Nat))) (hz : ∀ z ∈ zs, z < 256) : Octs w v zs := by
  have h1 := h.1
  simp at h1
  rcases h.2 with ⟨rfl, h0⟩ | ⟨g, cap, cur, rfl, hb, hg, hn, hm, hs, ht⟩
  · have : zs = [] := List.eq_nil_of_length_eq_zero (by omega)
    subst this
    exact ⟨hz, by simp, none, 0, rfl, by simp, by simp, .inl ⟨rfl, rfl⟩⟩
  · refine ⟨hz, by omega, _, cap, by rw [h1], by omega, hm, .inr ⟨_, rfl, .inr ⟨g, 0, rfl, (Array.getElem?_eq_some_iff.1 hg).1, ?_⟩⟩⟩
    intro j hj
    have := h.cells (g := g) rfl j (.int .u8 (zs[j]?.getD 0 : Nat)) (by simp [List.getElem?_map, List.getElem?_eq_getElem hj])
    rw [addr_add] at this
    rw [Nat.zero_add]; exact this

/-- A row that came in. -/
theorem Octs.ofRow {w : World} {a : Option Addr} {len cap : Nat} {xs : List Int} (h : IsRow .u8 w a len cap xs) : Octs w (.slice a len cap) ((xs.take len).map Int.toNat) := by
  rcases h with ⟨rfl, rfl, rfl, rfl⟩ | ⟨x, rfl, hl, hm, hz, hc, hw⟩
  · exact ⟨by simp, by simp, none, 0, rfl, by simp, by simp, .inl ⟨rfl, rfl⟩⟩
  · have hlen : ((xs.take len).map Int.toNat).length = len := by rw [List.length_map, List.length_take]; omega
    have hwf : ∀ z ∈ xs, 0 ≤ z ∧ z ≤ 255 := fun z hz' => by
      have := hw z hz'
      simpa [Lit.wf, IntKind.min, IntKind.max, IntKind.signed, IntKind.bits] using this
    refine ⟨?_, by omega, _, cap, by rw [hlen], by omega, hm, .inr ⟨x, rfl, ?_⟩⟩
    · intro z hz'
      rw [List.mem_map] at hz'
      obtain ⟨y, hy, rfl⟩ := hz'
      have := hwf y (List.mem_of_mem_take hy)
      omega
    · by_cases h0 : len = 0
      · left; subst h0; rfl
      · right
        obtain ⟨b, off, rfl, hc'⟩ := ints_at hc (by omega)
        refine ⟨b, off, rfl, cell_lt (hc' 0 (by omega)), fun j hj => ?_⟩
        rw [hlen] at hj
        rw [hc' j (by omega)]
        have hj' : j < xs.length := by omega
        have := hwf _ (List.getElem_mem hj')
        simp [List.getD, List.getElem?_map, List.getElem?_take_of_lt hj, List.getElem?_eq_getElem hj']
        omega
theorem Octs.lenEq {w : World} {a : Option Addr} {n cap : Nat} {zs : List Nat} (h : Octs w (.slice a n cap) zs) : zs.length = n := by
  obtain ⟨_, _, a', cap', e, _⟩ := h
  simp only [Value.slice.injEq] at e
  exact e.2.1.symm
theorem Octs.lenLe {w : World} {a : Option Addr} {n cap : Nat} {zs : List Nat} (h : Octs w (.slice a n cap) zs) : n ≤ 9223372036854775807 := by
  have := h.len; rw [h.lenEq] at this; exact this
theorem Octs.addr {w : World} {a : Option Addr} {n cap : Nat} {zs : List Nat} (h : Octs w (.slice a n cap) zs) (h0 : 0 < n) : ∃ b off, a = some ⟨b, off, none⟩ ∧ b < w.heap.size ∧ OctAt w b off zs := by
  have hl := h.lenEq
  obtain ⟨_, _, a', cap', e, h3, _, h5⟩ := h
  simp only [Value.slice.injEq] at e
  obtain ⟨rfl, _, rfl⟩ := e
  rcases h5 with ⟨_, rfl⟩ | ⟨x, rfl, rfl | ⟨b, off, rfl, hlt, hc⟩⟩
  · omega
  · simp at hl; omega
  · exact ⟨b, off, rfl, hlt, hc⟩
theorem getD_small (l : List Nat) (h : ∀ z ∈ l, z < 256) (k : Nat) : l[k]?.getD 0 < 256 := by
  by_cases hk : k < l.length
  · rw [List.getElem?_eq_getElem hk]; exact h _ (List.getElem_mem hk)
  · rw [List.getElem?_eq_none (by omega)]; decide
theorem Octs.shape {w : World} {v : Value} {zs : List Nat} (h : Octs w v zs) : ∃ a cap, v = .slice a zs.length cap := by
  obtain ⟨_, _, a, cap, e, _⟩ := h
  exact ⟨a, cap, e⟩
end Go.Proofs.YtfclhehpbniapaaDoor
