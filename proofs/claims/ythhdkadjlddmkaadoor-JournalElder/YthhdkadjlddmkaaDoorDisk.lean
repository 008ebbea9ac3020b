/- A disk in memory: what a walk is told of one. -/
import Derived.Test.YthhdkadjlddmkaaDoorKept
import Derived.Test.YthhdkadjlddmkaaDoorProg
import Derived.Deep.MidRow
import Derived.Maps.OwnSet
namespace Go.Proofs.YthhdkadjlddmkaaDoor
open Go.RowKit
set_option linter.unusedVariables false

/-! ### Sectors -/
structure Sec where
  l : List Nat
  len : l.length = 128
  oct : ∀ x ∈ l, x < 256
theorem Sec.ext {a b : Sec} (h : a.l = b.l) : a = b := by cases a; cases b; cases h; rfl
def Sec.cells (s : Sec) : List Value := u8s s.l
theorem Sec.cells_length (s : Sec) : s.cells.length = 128 := by rw [Sec.cells, u8s_length, s.len]
theorem Sec.cells_one (s : Sec) : ∀ v ∈ s.cells, v.oneCell' = true := by
  intro u hu
  simp only [Sec.cells, u8s, List.mem_map] at hu
  obtain ⟨z, _, rfl⟩ := hu
  rfl
def Sec.zero : Sec := ⟨List.replicate 128 0, by simp, fun x hx => by rw [List.eq_of_mem_replicate hx]; decide⟩

/-- A write that waits. -/
abbrev Wr := Nat × Sec
def wrCells (p : Wr) : List Value := .int .i64 (p.1 : Nat) :: p.2.cells
theorem wrCells_length (p : Wr) : (wrCells p).length = 129 := by simp [wrCells, Sec.cells_length]
theorem wrCells_one (p : Wr) : ∀ v ∈ wrCells p, v.oneCell' = true := by
  intro v hv
  rcases List.mem_cons.1 hv with rfl | hv
  · rfl
  · exact p.2.cells_one v hv
def flatW (ps : List Wr) : List Value := ps.flatMap wrCells
theorem flatW_length (ps : List Wr) : (flatW ps).length = ps.length * 129 := by
  induction ps with
  | nil => rfl
  | cons p r ih => simp only [flatW, List.flatMap_cons, List.length_append, wrCells_length] at ih ⊢; simp only [List.length_cons]; omega
theorem flatW_append (a b : List Wr) : flatW (a ++ b) = flatW a ++ flatW b := by simp [flatW]
theorem flatW_at (ps : List Wr) : ∀ (i : Nat) (p : Wr), ps[i]? = some p → ∀ j, j < 129 → (flatW ps)[129 * i + j]? = (wrCells p)[j]? := by
  induction ps with
  | nil => intro i p h; simp at h
  | cons q r ih =>
    intro i p h j hj
    cases i with
    | zero =>
      simp at h; subst h
      simp only [flatW, List.flatMap_cons, Nat.mul_zero, Nat.zero_add]
      exact List.getElem?_append_left (by rw [wrCells_length]; exact hj)
    | succ i =>
      simp at h
      have := ih i p h j hj
      simp only [flatW, List.flatMap_cons] at this ⊢
      rw [List.getElem?_append_right (by rw [wrCells_length]; omega), wrCells_length, show 129 * (i + 1) + j - 129 = 129 * i + j by omega, this]

/-! ### The map of the latest -/
/-- The number of the last write of sector k. -/
def lastOf (ps : List Wr) (k : Nat) : Option Nat := (List.range ps.length).reverse.find? fun i => (ps[i]?.map (·.1)) == some k
structure St where
  n : Nat
  safe : Nat → Sec
  waits : List Wr
  written : Nat
  left : Int
structure St.Ok (S : St) : Prop where
  n1 : 1 ≤ S.n
  n2 : S.n ≤ 65536
  at' : ∀ p ∈ S.waits, p.1 < S.n
  many : S.waits.length ≤ 1000000000
  wr : S.written ≤ 1000000000
  l1 : -1 ≤ S.left
  l2 : S.left ≤ 9223372036854775807
/-- What the map says: of each sector whether a write waits, and the last one's number. -/
def Latest (D : DataW Unit) (ps : List Wr) : Prop := ∀ k : Nat, k < 65536 →
  (lastOf ps k = none → Maps.has D (.int .i64 (k : Nat)) = false) ∧
  (∀ i, lastOf ps k = some i → Maps.has D (.int .i64 (k : Nat)) = true ∧ D.atKey (.int .i64 (k : Nat)) (.lit (.int .i64 0)) = .lit (.int .i64 (i : Nat)))

/-! ### The disk -/
structure Loc where
  b : Nat
  sb : Nat
  mb : Nat
  wv : Value
def Loc.foot (L : Loc) (k : Nat) : Prop := k = L.b ∨ k = L.sb ∨ k = L.mb ∨ L.wv.ownBlock = some k
def Head (w : World) (b : Nat) (v0 v1 v2 v3 v4 : Value) : Prop := w.heap[b]? = some (.cells #[v0, v1, v2, v3, v4] 58 (0, 0))
structure IsDisk (K : Nat → Prop) (w : World) (L : Loc) (S : St) : Prop where
  head : Head w L.b (.slice (some ⟨L.sb, 0, none⟩) S.n S.n) L.wv (.map (some L.mb)) (.int .i64 (S.written : Nat)) (.int .i64 S.left)
  safe : ∀ i, i < S.n → w.rangeAt L.sb (128 * i) (S.safe i).cells
  there : w.there L.sb 0 (128 * S.n)
  waits : w.ownsRow 0 72 129 L.wv S.waits.length (flatW S.waits)
  map : ∃ D : DataW Unit, w.ownsMap Tryd.prog 3 (plainElem Tryd.prog 3) L.mb S.waits.length D ∧ Latest D S.waits
  nK : ∀ k, L.foot k → ¬ K k
  lt : ∀ k, L.foot k → k < w.heap.size
  ne1 : L.b ≠ L.sb
  ne2 : L.b ≠ L.mb
  ne3 : L.sb ≠ L.mb
  ne4 : ∀ g, L.wv.ownBlock = some g → g ≠ L.b ∧ g ≠ L.sb ∧ g ≠ L.mb
  kl : ∀ k, K k → k < w.heap.size
  ok : S.Ok

theorem Head.cell {w : World} {b : Nat} {v0 v1 v2 v3 v4 : Value} (h : Head w b v0 v1 v2 v3 v4) : w.cell? ⟨b, 0, none⟩ = some v0 ∧ w.cell? ⟨b, 1, none⟩ = some v1 ∧ w.cell? ⟨b, 2, none⟩ = some v2 ∧ w.cell? ⟨b, 3, none⟩ = some v3 ∧ w.cell? ⟨b, 4, none⟩ = some v4 := by
  unfold Head at h
  refine ⟨?_, ?_, ?_, ?_, ?_⟩ <;> rw [cell_of_row w b _ _ _ _ h] <;> rfl
theorem Head.frozen {w : World} {b : Nat} {v0 v1 v2 v3 v4 : Value} (h : Head w b v0 v1 v2 v3 v4) (i : Nat) : w.frozen? ⟨b, i, none⟩ = false := by
  simp [World.frozen?, show w.heap[b]? = _ from h]
theorem Head.lt {w : World} {b : Nat} {v0 v1 v2 v3 v4 : Value} (h : Head w b v0 v1 v2 v3 v4) : b < w.heap.size := (Array.getElem?_eq_some_iff.1 h).1
theorem Head.set1 {w : World} {b : Nat} {v0 v1 v2 v3 v4 : Value} (h : Head w b v0 v1 v2 v3 v4) (u : Value) : Head (w.setCell ⟨b, 1, none⟩ u) b v0 u v2 v3 v4 := (heap_set_row h 1 u).trans rfl
theorem Head.set3 {w : World} {b : Nat} {v0 v1 v2 v3 v4 : Value} (h : Head w b v0 v1 v2 v3 v4) (u : Value) : Head (w.setCell ⟨b, 3, none⟩ u) b v0 v1 v2 u v4 := (heap_set_row h 3 u).trans rfl
theorem Head.set4 {w : World} {b : Nat} {v0 v1 v2 v3 v4 : Value} (h : Head w b v0 v1 v2 v3 v4) (u : Value) : Head (w.setCell ⟨b, 4, none⟩ u) b v0 v1 v2 v3 u := (heap_set_row h 4 u).trans rfl

theorem rangeAt_same {w w' : World} {b o : Nat} {cs : List Value} (h : w.rangeAt b o cs) (hb : w'.heap[b]? = w.heap[b]?) : w'.rangeAt b o cs := fun j v hv => (World.cell?_of_block (w := w) (a := ⟨b, o + j, none⟩) hb).trans (h j v hv)
theorem there_same {w w' : World} {b o n : Nat} (h : w.there b o n) (hb : w'.heap[b]? = w.heap[b]?) : w'.there b o n := fun j hj =>
  ⟨by rw [World.cell?_of_block (w := w) (a := ⟨b, o + j, none⟩) hb]; exact (h j hj).1, by rw [World.frozen?_of_block (w := w) (a := ⟨b, o + j, none⟩) hb]; exact (h j hj).2⟩
theorem ownsMap_same {w w' : World} {P : Program} {k : TypeId} {R : Value → Option (DataW Unit × List MemPlace)} {b n : Nat} {D : DataW Unit} (h : w.ownsMap P k R b n D) (hb : w'.heap[b]? = w.heap[b]?) : w'.ownsMap P k R b n D := by
  obtain ⟨es, c, h1, h2⟩ := h
  exact ⟨es, c, hb.trans h1, h2⟩

/-- Where its own blocks have not turned it is as it was. -/
theorem IsDisk.same {K : Nat → Prop} {w w' : World} {L : Loc} {S : St} (h : IsDisk K w L S) (hs : w.heap.size ≤ w'.heap.size) (hb : ∀ k, k < w.heap.size → L.foot k → w'.heap[k]? = w.heap[k]?) : IsDisk K w' L S where
  head := (hb _ (h.lt _ (.inl rfl)) (.inl rfl)).trans h.head
  safe i hi := rangeAt_same (h.safe i hi) (hb _ (h.lt _ (.inr (.inl rfl))) (.inr (.inl rfl)))
  there := there_same h.there (hb _ (h.lt _ (.inr (.inl rfl))) (.inr (.inl rfl)))
  waits := ownsRow_same h.waits fun g hg => hb _ (h.lt _ (.inr (.inr (.inr hg)))) (.inr (.inr (.inr hg)))
  map := by
    obtain ⟨D, h1, h2⟩ := h.map
    exact ⟨D, ownsMap_same h1 (hb _ (h.lt _ (.inr (.inr (.inl rfl)))) (.inr (.inr (.inl rfl)))), h2⟩
  nK := h.nK
  lt k hk := Nat.lt_of_lt_of_le (h.lt k hk) hs
  ne1 := h.ne1
  ne2 := h.ne2
  ne3 := h.ne3
  ne4 := h.ne4
  kl k hk := Nat.lt_of_lt_of_le (h.kl k hk) hs
  ok := h.ok
theorem IsDisk.alloc {K : Nat → Prop} {w : World} {L : Loc} {S : St} (h : IsDisk K w L S) (o : Obj) : IsDisk K (w.alloc o) L S :=
  h.same (by simp) fun k hk _ => Below.heap_alloc w o k hk
theorem IsDisk.drew {K : Nat → Prop} {w : World} {L : Loc} {S : St} (h : IsDisk K w L S) : IsDisk K w.drew L S := h.same (Nat.le_refl _) fun _ _ _ => rfl
theorem IsDisk.belowed {K : Nat → Prop} {w w' : World} {L : Loc} {S : St} (h : IsDisk K w L S) (hb : Below w.heap.size w w') : IsDisk K w' L S := h.same hb.size fun k hk _ => hb.block k hk
/-- A cell of a block that is kept is written. -/
theorem IsDisk.beside {K : Nat → Prop} {w : World} {L : Loc} {S : St} (h : IsDisk K w L S) {p : Addr} (hp : K p.block) (u : Value) : IsDisk K (w.setCell p u) L S :=
  h.same (by simp) fun k _ hf => Below.heap_setCell w p u k (fun e => h.nK k hf (e ▸ hp))
theorem IsDisk.turnK {K K' : Nat → Prop} {w : World} {L : Loc} {S : St} (h : IsDisk K w L S) (hn : ∀ k, L.foot k → ¬ K' k) (hl : ∀ k, K' k → k < w.heap.size) : IsDisk K' w L S := { h with nK := hn, kl := hl }
/-- What is kept may be less. -/
theorem IsDisk.less {K K' : Nat → Prop} {w : World} {L : Loc} {S : St} (h : IsDisk K w L S) (hK : ∀ k, K' k → K k) : IsDisk K' w L S := h.turnK (fun k hf hk => h.nK k hf (hK k hk)) (fun k hk => h.kl k (hK k hk))

/-- The head turned, all else as it was. -/
theorem IsDisk.headed {K : Nat → Prop} {w w' : World} {L : Loc} {S : St} (h : IsDisk K w L S) (hs : w.heap.size ≤ w'.heap.size) (hb : ∀ k, k < w.heap.size → k ≠ L.b → w'.heap[k]? = w.heap[k]?) (written : Nat) (left : Int)
    (hh : Head w' L.b (.slice (some ⟨L.sb, 0, none⟩) S.n S.n) L.wv (.map (some L.mb)) (.int .i64 (written : Nat)) (.int .i64 left)) (hw : written ≤ 1000000000) (h1 : -1 ≤ left) (h2 : left ≤ 9223372036854775807) : IsDisk K w' L { S with written := written, left := left } where
  head := hh
  safe i hi := rangeAt_same (h.safe i hi) (hb _ (h.lt _ (.inr (.inl rfl))) h.ne1.symm)
  there := there_same h.there (hb _ (h.lt _ (.inr (.inl rfl))) h.ne1.symm)
  waits := ownsRow_same h.waits fun g hg => hb _ (h.lt _ (.inr (.inr (.inr hg)))) (h.ne4 g hg).1
  map := by
    obtain ⟨D, h1, h2⟩ := h.map
    exact ⟨D, ownsMap_same h1 (hb _ (h.lt _ (.inr (.inr (.inl rfl)))) h.ne2.symm), h2⟩
  nK := h.nK
  lt k hk := Nat.lt_of_lt_of_le (h.lt k hk) hs
  ne1 := h.ne1
  ne2 := h.ne2
  ne3 := h.ne3
  ne4 := h.ne4
  kl k hk := Nat.lt_of_lt_of_le (h.kl k hk) hs
  ok := ⟨h.ok.n1, h.ok.n2, h.ok.at', h.ok.many, hw, h1, h2⟩
theorem IsDisk.setLeft {K : Nat → Prop} {w : World} {L : Loc} {S : St} (h : IsDisk K w L S) (left : Int) (h1 : -1 ≤ left) (h2 : left ≤ 9223372036854775807) : IsDisk K (w.setCell ⟨L.b, 4, none⟩ (.int .i64 left)) L { S with left := left } :=
  h.headed (by simp) (fun k _ hk => Below.heap_setCell w _ _ k hk) S.written left (h.head.set4 _) h.ok.wr h1 h2

def Disk (K : Nat → Prop) (w : World) (b : Nat) (S : St) : Prop := ∃ sb mb wv, IsDisk K w ⟨b, sb, mb, wv⟩ S
theorem IsDisk.disk {K : Nat → Prop} {w : World} {L : Loc} {S : St} (h : IsDisk K w L S) : Disk K w L.b S := ⟨L.sb, L.mb, L.wv, h⟩
end Go.Proofs.YthhdkadjlddmkaaDoor
