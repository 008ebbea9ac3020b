/- What a call keeps: blocks that are as they were. Generic over the program. -/
import Derived.Test.YtfclhehpbniapaaDoorAppOcts
namespace Go.Proofs.YtfclhehpbniapaaDoor
open Go.RowKit
set_option linter.unusedVariables false

/-! ### What is kept -/
/-- The blocks of K are as they were. -/
structure Kept (K : Nat → Prop) (w w' : World) : Prop where
  os : w'.os = w.os
  tape : w'.tape = w.tape
  output : w'.output = w.output
  size : w.heap.size ≤ w'.heap.size
  block : ∀ k, K k → w'.heap[k]? = w.heap[k]?
theorem Kept.refl (K : Nat → Prop) (w : World) : Kept K w w := ⟨rfl, rfl, rfl, Nat.le_refl _, fun _ _ => rfl⟩
theorem Kept.trans {K : Nat → Prop} {a b c : World} (h : Kept K a b) (k : Kept K b c) : Kept K a c :=
  ⟨k.os.trans h.os, k.tape.trans h.tape, k.output.trans h.output, Nat.le_trans h.size k.size, fun i hi => (k.block i hi).trans (h.block i hi)⟩
theorem Kept.mono {K K' : Nat → Prop} {w w' : World} (h : Kept K w w') (hK : ∀ k, K' k → K k) : Kept K' w w' := ⟨h.os, h.tape, h.output, h.size, fun k hk => h.block k (hK k hk)⟩
theorem Kept.drew {K : Nat → Prop} {a w : World} (h : Kept K a w) : Kept K a w.drew := ⟨h.os, h.tape, h.output, h.size, h.block⟩
theorem Kept.undrew {K : Nat → Prop} {a w : World} (h : Kept K a.drew w) : Kept K a w := ⟨h.os, h.tape, h.output, h.size, h.block⟩
theorem Kept.ofBelow {K : Nat → Prop} {B : Nat} {w w' : World} (h : Below B w w') (hK : ∀ k, K k → k < B) : Kept K w w' := ⟨h.os, h.tape, h.output, h.size, fun k hk => h.block k (hK k hk)⟩
theorem Kept.below {K : Nat → Prop} {B : Nat} {w w' : World} (h : Kept K w w') (hK : ∀ k, k < B → K k) : Below B w w' := ⟨h.os, h.tape, h.output, h.size, fun k hk => h.block k (hK k hk)⟩
theorem Kept.alloc {K : Nat → Prop} {a w : World} (h : Kept K a w) (hK : ∀ k, K k → k < w.heap.size) (o : Obj) : Kept K a (w.alloc o) :=
  h.trans (Kept.ofBelow ((Below.refl _ w).alloc (Nat.le_refl _) o) hK)
theorem Kept.setCell {K : Nat → Prop} {a w : World} (h : Kept K a w) {p : Addr} (hp : ¬ K p.block) (u : Value) : Kept K a (w.setCell p u) :=
  h.trans ⟨rfl, rfl, rfl, by simp, fun k hk => Below.heap_setCell w p u k (fun e => hp (e ▸ hk))⟩
theorem heap_setCells (b : Nat) : ∀ (vs : List Value) (o : Nat) (w : World) (k : Nat), k ≠ b → (w.setCells b o vs).heap[k]? = w.heap[k]?
  | [], _, _, _, _ => rfl
  | v :: r, o, w, k, h => by
    rw [World.setCells, heap_setCells b r (o + 1) _ k h]
    exact Below.heap_setCell w ⟨b, o, none⟩ v k h
theorem size_setCells (b : Nat) : ∀ (vs : List Value) (o : Nat) (w : World), (w.setCells b o vs).heap.size = w.heap.size
  | [], _, _ => rfl
  | v :: r, o, w => by rw [World.setCells, size_setCells b r (o + 1)]; simp
theorem os_setCells (b : Nat) : ∀ (vs : List Value) (o : Nat) (w : World), (w.setCells b o vs).os = w.os ∧ (w.setCells b o vs).tape = w.tape ∧ (w.setCells b o vs).output = w.output
  | [], _, _ => ⟨rfl, rfl, rfl⟩
  | v :: r, o, w => by rw [World.setCells]; exact os_setCells b r (o + 1) _
theorem Kept.setCells {K : Nat → Prop} {a w : World} (h : Kept K a w) {b : Nat} (hp : ¬ K b) (o : Nat) (vs : List Value) : Kept K a (w.setCells b o vs) :=
  h.trans ⟨(os_setCells b vs o w).1, (os_setCells b vs o w).2.1, (os_setCells b vs o w).2.2, by rw [size_setCells]; exact Nat.le_refl _, fun k hk => heap_setCells b vs o w k (fun e => hp (e ▸ hk))⟩
theorem Kept.grown {K : Nat → Prop} {a w w' : World} {row : Option Nat} (h : Kept K a w) (hg : w.grownBy w' row) (hK : ∀ k, K k → k < w.heap.size ∧ row ≠ some k) : Kept K a w' :=
  h.trans ⟨hg.os, hg.tape, hg.output, hg.size, fun k hk => hg.block k (hK k hk).1 (fun e => (hK k hk).2 e.symm)⟩
theorem Kept.cell {K : Nat → Prop} {w w' : World} (h : Kept K w w') {p : Addr} (hp : K p.block) : w'.cell? p = w.cell? p := World.cell?_of_block (w := w) (h.block p.block hp)
theorem Kept.frozen {K : Nat → Prop} {w w' : World} (h : Kept K w w') {p : Addr} (hp : K p.block) : w'.frozen? p = w.frozen? p := World.frozen?_of_block (w := w) (h.block p.block hp)

theorem heap_set_row {w : World} {b : Nat} {C : Array Value} {t : TypeId} {r : Nat × Nat} (h : w.heap[b]? = some (.cells C t r)) (i : Nat) (v : Value) : (w.setCell ⟨b, i, none⟩ v).heap[b]? = some (.cells (C.setIfInBounds i v) t r) := by
  obtain ⟨hlt, hk⟩ := Array.getElem?_eq_some_iff.1 h
  show (w.heap.modify b _)[b]? = _
  rw [Array.getElem?_eq_getElem (by rw [Array.size_modify]; exact hlt), Array.getElem_modify_self, hk]
  rfl
theorem ownsRow_same {w w' : World} {base : Nat} {e : TypeId} {size : Nat} {v : Value} {n : Nat} {xs : List Value} (h : w.ownsRow base e size v n xs) (hb : ∀ g, v.ownBlock = some g → w'.heap[g]? = w.heap[g]?) : w'.ownsRow base e size v n xs := by
  refine ⟨h.1, ?_⟩
  rcases h.2 with h | ⟨g, cap, cur, rfl, hbase, hg, r⟩
  · exact .inl h
  · exact .inr ⟨g, cap, cur, rfl, hbase, (hb g rfl).trans hg, r⟩

/-! ### Only one block may have turned -/
/-- Of what was there only block p may have turned. -/
def Only (p : Nat) (w w' : World) : Prop := Kept (fun k => k < w.heap.size ∧ k ≠ p) w w'
theorem Only.refl (p : Nat) (w : World) : Only p w w := Kept.refl _ w
theorem Only.size {p : Nat} {w w' : World} (h : Only p w w') : w.heap.size ≤ w'.heap.size := Kept.size h
theorem Only.trans {p : Nat} {a b c : World} (h : Only p a b) (k : Only p b c) : Only p a c :=
  Kept.trans (K := fun i => i < a.heap.size ∧ i ≠ p) h (Kept.mono k fun i hi => ⟨Nat.lt_of_lt_of_le hi.1 h.size, hi.2⟩)
theorem Only.drew {p : Nat} {a w : World} (h : Only p a w) : Only p a w.drew := Kept.drew h
theorem Only.undrew {p : Nat} {a w : World} (h : Only p a.drew w) : Only p a w := Kept.undrew (a := a) h
theorem Only.ofBelow {p : Nat} {w w' : World} (h : Below w.heap.size w w') : Only p w w' := Kept.ofBelow h fun _ hk => hk.1
theorem Only.below {p B : Nat} {w w' : World} (h : Only p w w') (hp : B ≤ p) (hB : B ≤ w.heap.size) : Below B w w' := Kept.below h fun k hk => ⟨by omega, by omega⟩
theorem Only.alloc {p : Nat} {a w : World} (h : Only p a w) (o : Obj) : Only p a (w.alloc o) :=
  h.trans (Only.ofBelow ((Below.refl _ _).alloc (Nat.le_refl _) o))
theorem Only.setCell {p : Nat} {a w : World} (h : Only p a w) (i : Nat) (u : Value) : Only p a (w.setCell ⟨p, i, none⟩ u) :=
  Kept.setCell (K := fun i => i < a.heap.size ∧ i ≠ p) h (fun hk => hk.2 rfl) u
/-- A store into a block that was not there. -/
theorem Only.setNew {p : Nat} {a w : World} (h : Only p a w) {q : Addr} (hq : a.heap.size ≤ q.block) (u : Value) : Only p a (w.setCell q u) :=
  Kept.setCell (K := fun i => i < a.heap.size ∧ i ≠ p) h (fun hk => absurd hk.1 (Nat.not_lt.2 hq)) u
theorem Only.heap {p : Nat} {w w' : World} (h : Only p w w') {k : Nat} (hk : k < w.heap.size) (hn : k ≠ p) : w'.heap[k]? = w.heap[k]? := Kept.block h k ⟨hk, hn⟩
theorem Only.cell {p : Nat} {w w' : World} (h : Only p w w') {q : Addr} (hk : q.block < w.heap.size) (hn : q.block ≠ p) : w'.cell? q = w.cell? q := World.cell?_of_block (w := w) (h.heap hk hn)
theorem lt_of_heap {w : World} {b : Nat} {o : Obj} (h : w.heap[b]? = some o) : b < w.heap.size := (Array.getElem?_eq_some_iff.1 h).1

/-- No cell of block p is an octet. -/
def NoOct (w : World) (p : Nat) : Prop := ∀ i z, w.cell? ⟨p, i, none⟩ ≠ some (.int .u8 z)
/-- Octets lie elsewhere. -/
theorem Octs.only {w w' : World} {p : Nat} {v : Value} {zs : List Nat} (h : Octs w v zs) (hn : NoOct w p) (ho : Only p w w') : Octs w' v zs := by
  obtain ⟨h1, h2, a, cap, rfl, h3, h4, h5⟩ := h
  refine ⟨h1, h2, a, cap, rfl, h3, h4, ?_⟩
  rcases h5 with h5 | ⟨x, rfl, h5⟩
  · exact .inl h5
  · refine .inr ⟨x, rfl, ?_⟩
    rcases h5 with h5 | ⟨b, off, rfl, hlt, hc⟩
    · exact .inl h5
    · by_cases h0 : zs.length = 0
      · exact .inl (List.eq_nil_of_length_eq_zero h0)
      · have hbp : b ≠ p := fun e => by
          subst e
          exact hn (off + 0) _ (hc 0 (by omega))
        exact .inr ⟨b, off, rfl, Nat.lt_of_lt_of_le hlt ho.size, fun j hj => (ho.cell (q := ⟨b, off + j, none⟩) hlt hbp).trans (hc j hj)⟩
theorem cells_of_cell {w : World} {b o : Nat} {v : Value} (h : w.cell? ⟨b, o, none⟩ = some v) : ∃ c t f, w.heap[b]? = some (.cells c t f) := by
  unfold World.cell? at h
  cases hb : w.heap[b]? with
  | none => simp [hb] at h
  | some ob =>
    cases ob with
    | cells c t f => exact ⟨c, t, f, rfl⟩
    | _ => simp [hb] at h
end Go.Proofs.YtfclhehpbniapaaDoor
