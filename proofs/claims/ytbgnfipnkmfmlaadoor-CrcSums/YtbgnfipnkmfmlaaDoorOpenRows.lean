/- How an argument that is a slice of slices of integers reads. -/
import Derived.Test.YtbgnfipnkmfmlaaDoorOpens
import Derived.Test.YtbgnfipnkmfmlaaDoorWalkSum
import Derived.Deep.Matrix
namespace Go.Proofs.YtbgnfipnkmfmlaaDoor
open Go.ChangeShapes Go.WideShapes Go.ChangeAt Go.RowKit Go.Deep
set_option linter.unusedVariables false

/-- What a walk is told of a slice of slices of integers that came in. -/
def IsRows (k : IntKind) (w : World) (a : Option Addr) (len cap : Nat) (A : Nat → Option Addr) (L C : Nat → Nat) (Z : Nat → List Int) : Prop :=
  (a = none ∧ len = 0 ∧ cap = 0) ∨
  ∃ x, a = some x ∧ len ≤ cap ∧ cap ≤ maxLen ∧ ∀ r, r < cap → w.cell? (x.add r) = some (.slice (A r) (L r) (C r)) ∧ IsRow k w (A r) (L r) (C r) (Z r)

theorem open_rows {H : Type} {enc : TypeId × Value → H} {P : Program} {w : World} {base : Nat} {held : Bool} {t e q : TypeId} {k : IntKind} {a : Option Addr} {len cap : Nat} {d : DataW H} {p : List MemPlace}
    (ht : P.underlying t = some (.slice e)) (he : P.underlying e = some (.slice q)) (hq : P.underlying q = some (.int k)) (ce : P.cellsOf e = 1) (cq : P.cellsOf q = 1)
    (h : DataW.Trod enc P w base (fun _ => true) held t (.slice a len cap) d p) : ∃ A L C Z, IsRows k w a len cap A L C Z := by
  obtain ⟨fuel, hf⟩ := h
  rcases open_int_rows ht he hq ce cq hf with ⟨hcs, _⟩ | ⟨x, l, c, A, L, C, Z, hcs, _, hl, hm, _, hall⟩
  · simp [Value.cells] at hcs
    obtain ⟨rfl, rfl, rfl⟩ := hcs
    exact ⟨fun _ => none, fun _ => 0, fun _ => 0, fun _ => [], .inl ⟨rfl, rfl, rfl⟩⟩
  · simp [Value.cells] at hcs
    obtain ⟨rfl, rfl, rfl⟩ := hcs
    refine ⟨A, L, C, Z, .inr ⟨x, rfl, hl, hm, fun r hr => ?_⟩⟩
    obtain ⟨h1, h2, h3, h4, h5, h6, h7⟩ := hall r hr
    refine ⟨h1, ?_⟩
    cases hA : A r with
    | none =>
      have := h6 hA
      exact .inl ⟨rfl, by omega, by omega, List.eq_nil_of_length_eq_zero (by omega)⟩
    | some a' =>
      obtain ⟨_, h8⟩ := h7 a' hA
      exact .inr ⟨a', rfl, h2, h3, h4, fun i hi => h8 i (by omega), h5⟩

theorem OctRows.kept {w w' : World} {v : Value} {zss : List (List Nat)} (h : OctRows w v zss) (hb : Below w.heap.size w w') : OctRows w' v zss := by
  obtain ⟨hl, a, cap, rfl, h0 | ⟨b, off, rfl, hlt, hr⟩⟩ := h
  · exact ⟨hl, a, cap, rfl, .inl h0⟩
  · refine ⟨hl, _, cap, rfl, .inr ⟨b, off, rfl, Nat.lt_of_lt_of_le hlt hb.size, fun j hj => ?_⟩⟩
    obtain ⟨u, hc, ho⟩ := hr j hj
    exact ⟨u, (hb.cell (p := ⟨b, off + j, none⟩) hlt).trans hc, ho.kept hb⟩
/-- Slices of octets that came in. -/
theorem OctRows.ofRows {w : World} {a : Option Addr} {len cap : Nat} {A : Nat → Option Addr} {L C : Nat → Nat} {Z : Nat → List Int} (h : IsRows .u8 w a len cap A L C Z) :
    OctRows w (.slice a len cap) ((List.range len).map fun r => ((Z r).take (L r)).map Int.toNat) := by
  have hlen : ((List.range len).map fun r => ((Z r).take (L r)).map Int.toNat).length = len := by simp
  rcases h with ⟨rfl, rfl, rfl⟩ | ⟨x, rfl, hl, hm, hall⟩
  · exact ⟨by simp, none, 0, rfl, .inl rfl⟩
  · unfold maxLen at hm
    refine ⟨by omega, _, cap, by rw [hlen], ?_⟩
    by_cases h0 : len = 0
    · left; subst h0; rfl
    · right
      obtain ⟨b, off, spot⟩ := x
      have hspot : spot = none := by simpa [Addr.add] using World.cell?_spot (hall 0 (by omega)).1
      subst hspot
      have e : ∀ j, (⟨b, off, none⟩ : Addr).add j = ⟨b, off + j, none⟩ := fun j => by unfold Addr.add; split <;> simp_all
      refine ⟨b, off, rfl, cell_lt (by have := (hall 0 (by omega)).1; rw [e] at this; exact this), fun j hj => ?_⟩
      rw [hlen] at hj
      obtain ⟨h1, h2⟩ := hall j (by omega)
      rw [e] at h1
      refine ⟨_, h1, ?_⟩
      rw [List.getElem?_map, List.getElem?_range hj]
      exact Octs.ofRow h2
end Go.Proofs.YtbgnfipnkmfmlaaDoor
