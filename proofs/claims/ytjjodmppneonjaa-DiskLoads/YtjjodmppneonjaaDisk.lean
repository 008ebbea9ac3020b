/- A disk in memory: what a walk is told of one. -/
import Derived.Test.YtjjodmppneonjaaAppOcts
import Derived.Test.YtjjodmppneonjaaProg
import Derived.Deep.MidRow
import Derived.Maps.OwnSet
namespace Go.Proofs.Ytjjodmppneonjaa
open Go.RowKit
set_option linter.unusedVariables false

/-! ### What is kept -/
/-- The blocks of K are as they were. -/
structure Kept (K : Nat → Prop) (w w' : World) : Prop where
  os : w'.os = w.os
  tape : w'.tape = w.tape
  output : w'.output = w.output
  size : w.heap.size ≤ w'.heap.size
  block : ∀ k, K k → w'.heap[k]? = w.heap[k]?
theorem Kept.refl (K : Nat → Prop) (w : World) : Kept K w w := ⟨rfl, rfl, rfl, Nat.le_refl _, fun _ _ => rfl⟩
theorem Kept.trans {K : Nat → Prop} {a b c : World} (h : Kept K a b) (k : Kept K b c) : Kept K a c :=
  ⟨k.os.trans h.os, k.tape.trans h.tape, k.output.trans h.output, Nat.le_trans h.size k.size, fun i hi => (k.block i hi).trans (h.block i hi)⟩
theorem Kept.mono {K K' : Nat → Prop} {w w' : World} (h : Kept K w w') (hK : ∀ k, K' k → K k) : Kept K' w w' := ⟨h.os, h.tape, h.output, h.size, fun k hk => h.block k (hK k hk)⟩
theorem Kept.drew {K : Nat → Prop} {a w : World} (h : Kept K a w) : Kept K a w.drew := ⟨h.os, h.tape, h.output, h.size, h.block⟩
theorem Kept.undrew {K : Nat → Prop} {a w : World} (h : Kept K a.drew w) : Kept K a w := ⟨h.os, h.tape, h.output, h.size, h.block⟩
theorem Kept.ofBelow {K : Nat → Prop} {B : Nat} {w w' : World} (h : Below B w w') (hK : ∀ k, K k → k < B) : Kept K w w' := ⟨h.os, h.tape, h.output, h.size, fun k hk => h.block k (hK k hk)⟩
theorem Kept.below {K : Nat → Prop} {B : Nat} {w w' : World} (h : Kept K w w') (hK : ∀ k, k < B → K k) : Below B w w' := ⟨h.os, h.tape, h.output, h.size, fun k hk => h.block k (hK k hk)⟩
theorem Kept.alloc {K : Nat → Prop} {a w : World} (h : Kept K a w) (hK : ∀ k, K k → k < w.heap.size) (o : Obj) : Kept K a (w.alloc o) :=
  h.trans (Kept.ofBelow ((Below.refl _ w).alloc (Nat.le_refl _) o) hK)
theorem Kept.setCell {K : Nat → Prop} {a w : World} (h : Kept K a w) {p : Addr} (hp : ¬ K p.block) (u : Value) : Kept K a (w.setCell p u) :=
  h.trans ⟨rfl, rfl, rfl, by simp, fun k hk => Below.heap_setCell w p u k (fun e => hp (e ▸ hk))⟩
theorem heap_setCells (b : Nat) : ∀ (vs : List Value) (o : Nat) (w : World) (k : Nat), k ≠ b → (w.setCells b o vs).heap[k]? = w.heap[k]?
  | [], _, _, _, _ => rfl
  | v :: r, o, w, k, h => by
    rw [World.setCells, heap_setCells b r (o + 1) _ k h]
    exact Below.heap_setCell w ⟨b, o, none⟩ v k h
theorem size_setCells (b : Nat) : ∀ (vs : List Value) (o : Nat) (w : World), (w.setCells b o vs).heap.size = w.heap.size
  | [], _, _ => rfl
  | v :: r, o, w => by rw [World.setCells, size_setCells b r (o + 1)]; simp
theorem os_setCells (b : Nat) : ∀ (vs : List Value) (o : Nat) (w : World), (w.setCells b o vs).os = w.os ∧ (w.setCells b o vs).tape = w.tape ∧ (w.setCells b o vs).output = w.output
  | [], _, _ => ⟨rfl, rfl, rfl⟩
  | v :: r, o, w => by rw [World.setCells]; exact os_setCells b r (o + 1) _
theorem Kept.setCells {K : Nat → Prop} {a w : World} (h : Kept K a w) {b : Nat} (hp : ¬ K b) (o : Nat) (vs : List Value) : Kept K a (w.setCells b o vs) :=
  h.trans ⟨(os_setCells b vs o w).1, (os_setCells b vs o w).2.1, (os_setCells b vs o w).2.2, by rw [size_setCells]; exact Nat.le_refl _, fun k hk => heap_setCells b vs o w k (fun e => hp (e ▸ hk))⟩
theorem Kept.grown {K : Nat → Prop} {a w w' : World} {row : Option Nat} (h : Kept K a w) (hg : w.grownBy w' row) (hK : ∀ k, K k → k < w.heap.size ∧ row ≠ some k) : Kept K a w' :=
  h.trans ⟨hg.os, hg.tape, hg.output, hg.size, fun k hk => hg.block k (hK k hk).1 (fun e => (hK k hk).2 e.symm)⟩
theorem Kept.cell {K : Nat → Prop} {w w' : World} (h : Kept K w w') {p : Addr} (hp : K p.block) : w'.cell? p = w.cell? p := World.cell?_of_block (w := w) (h.block p.block hp)
theorem Kept.frozen {K : Nat → Prop} {w w' : World} (h : Kept K w w') {p : Addr} (hp : K p.block) : w'.frozen? p = w.frozen? p := World.frozen?_of_block (w := w) (h.block p.block hp)

/-! ### Sectors -/
structure Sec where
  l : List Nat
  len : l.length = 128
  oct : ∀ x ∈ l, x < 256
theorem Sec.ext {a b : Sec} (h : a.l = b.l) : a = b := by cases a; cases b; cases h; rfl
def Sec.cells (s : Sec) : List Value := u8s s.l
theorem Sec.cells_length (s : Sec) : s.cells.length = 128 := by rw [Sec.cells, u8s_length, s.len]
theorem Sec.cells_one (s : Sec) : ∀ v ∈ s.cells, v.oneCell' = true := by
  intro u hu
  simp only [Sec.cells, u8s, List.mem_map] at hu
  obtain ⟨z, _, rfl⟩ := hu
  rfl
def Sec.zero : Sec := ⟨List.replicate 128 0, by simp, fun x hx => by rw [List.eq_of_mem_replicate hx]; decide⟩

/-- A write that waits. -/
abbrev Wr := Nat × Sec
def wrCells (p : Wr) : List Value := .int .i64 (p.1 : Nat) :: p.2.cells
theorem wrCells_length (p : Wr) : (wrCells p).length = 129 := by simp [wrCells, Sec.cells_length]
theorem wrCells_one (p : Wr) : ∀ v ∈ wrCells p, v.oneCell' = true := by
  intro v hv
  rcases List.mem_cons.1 hv with rfl | hv
  · rfl
  · exact p.2.cells_one v hv
def flatW (ps : List Wr) : List Value := ps.flatMap wrCells
theorem flatW_length (ps : List Wr) : (flatW ps).length = ps.length * 129 := by
  induction ps with
  | nil => rfl
  | cons p r ih => simp only [flatW, List.flatMap_cons, List.length_append, wrCells_length] at ih ⊢; simp only [List.length_cons]; omega
theorem flatW_append (a b : List Wr) : flatW (a ++ b) = flatW a ++ flatW b := by simp [flatW]
theorem flatW_at (ps : List Wr) : ∀ (i : Nat) (p : Wr), ps[i]? = some p → ∀ j, j < 129 → (flatW ps)[129 * i + j]? = (wrCells p)[j]? := by
  induction ps with
  | nil => intro i p h; simp at h
  | cons q r ih =>
    intro i p h j hj
    cases i with
    | zero =>
      simp at h; subst h
      simp only [flatW, List.flatMap_cons, Nat.mul_zero, Nat.zero_add]
      exact List.getElem?_append_left (by rw [wrCells_length]; exact hj)
    | succ i =>
      simp at h
      have := ih i p h j hj
      simp only [flatW, List.flatMap_cons] at this ⊢
      rw [List.getElem?_append_right (by rw [wrCells_length]; omega), wrCells_length, show 129 * (i + 1) + j - 129 = 129 * i + j by omega, this]

/-! ### The map of the latest -/
/-- The number of the last write of sector k. -/
def lastOf (ps : List Wr) (k : Nat) : Option Nat := (List.range ps.length).reverse.find? fun i => (ps[i]?.map (·.1)) == some k
structure St where
  n : Nat
  safe : Nat → Sec
  waits : List Wr
  written : Nat
  left : Int
structure St.Ok (S : St) : Prop where
  n1 : 1 ≤ S.n
  n2 : S.n ≤ 65536
  at' : ∀ p ∈ S.waits, p.1 < S.n
  many : S.waits.length ≤ 1000000000
  wr : S.written ≤ 1000000000
  l1 : -1 ≤ S.left
  l2 : S.left ≤ 9223372036854775807
/-- What the map says: of each sector whether a write waits, and the last one's number. -/
def Latest (D : DataW Unit) (ps : List Wr) : Prop := ∀ k : Nat, k < 65536 →
  (lastOf ps k = none → Maps.has D (.int .i64 (k : Nat)) = false) ∧
  (∀ i, lastOf ps k = some i → Maps.has D (.int .i64 (k : Nat)) = true ∧ D.atKey (.int .i64 (k : Nat)) (.lit (.int .i64 0)) = .lit (.int .i64 (i : Nat)))

/-! ### The disk -/
structure Loc where
  b : Nat
  sb : Nat
  mb : Nat
  wv : Value
def Loc.foot (L : Loc) (k : Nat) : Prop := k = L.b ∨ k = L.sb ∨ k = L.mb ∨ L.wv.ownBlock = some k
def Head (w : World) (b : Nat) (v0 v1 v2 v3 v4 : Value) : Prop := w.heap[b]? = some (.cells #[v0, v1, v2, v3, v4] 59 (0, 0))
structure IsDisk (K : Nat → Prop) (w : World) (L : Loc) (S : St) : Prop where
  head : Head w L.b (.slice (some ⟨L.sb, 0, none⟩) S.n S.n) L.wv (.map (some L.mb)) (.int .i64 (S.written : Nat)) (.int .i64 S.left)
  safe : ∀ i, i < S.n → w.rangeAt L.sb (128 * i) (S.safe i).cells
  there : w.there L.sb 0 (128 * S.n)
  waits : w.ownsRow 0 64 129 L.wv S.waits.length (flatW S.waits)
  map : ∃ D : DataW Unit, w.ownsMap Try.prog 3 (plainElem Try.prog 3) L.mb S.waits.length D ∧ Latest D S.waits
  nK : ∀ k, L.foot k → ¬ K k
  lt : ∀ k, L.foot k → k < w.heap.size
  ne1 : L.b ≠ L.sb
  ne2 : L.b ≠ L.mb
  ne3 : L.sb ≠ L.mb
  ne4 : ∀ g, L.wv.ownBlock = some g → g ≠ L.b ∧ g ≠ L.sb ∧ g ≠ L.mb
  kl : ∀ k, K k → k < w.heap.size
  ok : S.Ok

theorem Head.cell {w : World} {b : Nat} {v0 v1 v2 v3 v4 : Value} (h : Head w b v0 v1 v2 v3 v4) : w.cell? ⟨b, 0, none⟩ = some v0 ∧ w.cell? ⟨b, 1, none⟩ = some v1 ∧ w.cell? ⟨b, 2, none⟩ = some v2 ∧ w.cell? ⟨b, 3, none⟩ = some v3 ∧ w.cell? ⟨b, 4, none⟩ = some v4 := by
  unfold Head at h
  refine ⟨?_, ?_, ?_, ?_, ?_⟩ <;> rw [cell_of_row w b _ _ _ _ h] <;> rfl
theorem Head.frozen {w : World} {b : Nat} {v0 v1 v2 v3 v4 : Value} (h : Head w b v0 v1 v2 v3 v4) (i : Nat) : w.frozen? ⟨b, i, none⟩ = false := by
  simp [World.frozen?, show w.heap[b]? = _ from h]
theorem Head.lt {w : World} {b : Nat} {v0 v1 v2 v3 v4 : Value} (h : Head w b v0 v1 v2 v3 v4) : b < w.heap.size := (Array.getElem?_eq_some_iff.1 h).1
theorem heap_set_row {w : World} {b : Nat} {C : Array Value} {t : TypeId} {r : Nat × Nat} (h : w.heap[b]? = some (.cells C t r)) (i : Nat) (v : Value) : (w.setCell ⟨b, i, none⟩ v).heap[b]? = some (.cells (C.setIfInBounds i v) t r) := by
  obtain ⟨hlt, hk⟩ := Array.getElem?_eq_some_iff.1 h
  show (w.heap.modify b _)[b]? = _
  rw [Array.getElem?_eq_getElem (by rw [Array.size_modify]; exact hlt), Array.getElem_modify_self, hk]
  rfl
theorem Head.set1 {w : World} {b : Nat} {v0 v1 v2 v3 v4 : Value} (h : Head w b v0 v1 v2 v3 v4) (u : Value) : Head (w.setCell ⟨b, 1, none⟩ u) b v0 u v2 v3 v4 := (heap_set_row h 1 u).trans rfl
theorem Head.set3 {w : World} {b : Nat} {v0 v1 v2 v3 v4 : Value} (h : Head w b v0 v1 v2 v3 v4) (u : Value) : Head (w.setCell ⟨b, 3, none⟩ u) b v0 v1 v2 u v4 := (heap_set_row h 3 u).trans rfl
theorem Head.set4 {w : World} {b : Nat} {v0 v1 v2 v3 v4 : Value} (h : Head w b v0 v1 v2 v3 v4) (u : Value) : Head (w.setCell ⟨b, 4, none⟩ u) b v0 v1 v2 v3 u := (heap_set_row h 4 u).trans rfl

theorem rangeAt_same {w w' : World} {b o : Nat} {cs : List Value} (h : w.rangeAt b o cs) (hb : w'.heap[b]? = w.heap[b]?) : w'.rangeAt b o cs := fun j v hv => (World.cell?_of_block (w := w) (a := ⟨b, o + j, none⟩) hb).trans (h j v hv)
theorem there_same {w w' : World} {b o n : Nat} (h : w.there b o n) (hb : w'.heap[b]? = w.heap[b]?) : w'.there b o n := fun j hj =>
  ⟨by rw [World.cell?_of_block (w := w) (a := ⟨b, o + j, none⟩) hb]; exact (h j hj).1, by rw [World.frozen?_of_block (w := w) (a := ⟨b, o + j, none⟩) hb]; exact (h j hj).2⟩
theorem ownsRow_same {w w' : World} {base : Nat} {e : TypeId} {size : Nat} {v : Value} {n : Nat} {xs : List Value} (h : w.ownsRow base e size v n xs) (hb : ∀ g, v.ownBlock = some g → w'.heap[g]? = w.heap[g]?) : w'.ownsRow base e size v n xs := by
  refine ⟨h.1, ?_⟩
  rcases h.2 with h | ⟨g, cap, cur, rfl, hbase, hg, r⟩
  · exact .inl h
  · exact .inr ⟨g, cap, cur, rfl, hbase, (hb g rfl).trans hg, r⟩
theorem ownsMap_same {w w' : World} {P : Program} {k : TypeId} {R : Value → Option (DataW Unit × List MemPlace)} {b n : Nat} {D : DataW Unit} (h : w.ownsMap P k R b n D) (hb : w'.heap[b]? = w.heap[b]?) : w'.ownsMap P k R b n D := by
  obtain ⟨es, c, h1, h2⟩ := h
  exact ⟨es, c, hb.trans h1, h2⟩

/-- Where its own blocks have not turned it is as it was. -/
theorem IsDisk.same {K : Nat → Prop} {w w' : World} {L : Loc} {S : St} (h : IsDisk K w L S) (hs : w.heap.size ≤ w'.heap.size) (hb : ∀ k, k < w.heap.size → L.foot k → w'.heap[k]? = w.heap[k]?) : IsDisk K w' L S where
  head := (hb _ (h.lt _ (.inl rfl)) (.inl rfl)).trans h.head
  safe i hi := rangeAt_same (h.safe i hi) (hb _ (h.lt _ (.inr (.inl rfl))) (.inr (.inl rfl)))
  there := there_same h.there (hb _ (h.lt _ (.inr (.inl rfl))) (.inr (.inl rfl)))
  waits := ownsRow_same h.waits fun g hg => hb _ (h.lt _ (.inr (.inr (.inr hg)))) (.inr (.inr (.inr hg)))
  map := by
    obtain ⟨D, h1, h2⟩ := h.map
    exact ⟨D, ownsMap_same h1 (hb _ (h.lt _ (.inr (.inr (.inl rfl)))) (.inr (.inr (.inl rfl)))), h2⟩
  nK := h.nK
  lt k hk := Nat.lt_of_lt_of_le (h.lt k hk) hs
  ne1 := h.ne1
  ne2 := h.ne2
  ne3 := h.ne3
  ne4 := h.ne4
  kl k hk := Nat.lt_of_lt_of_le (h.kl k hk) hs
  ok := h.ok
theorem IsDisk.alloc {K : Nat → Prop} {w : World} {L : Loc} {S : St} (h : IsDisk K w L S) (o : Obj) : IsDisk K (w.alloc o) L S :=
  h.same (by simp) fun k hk _ => Below.heap_alloc w o k hk
theorem IsDisk.drew {K : Nat → Prop} {w : World} {L : Loc} {S : St} (h : IsDisk K w L S) : IsDisk K w.drew L S := h.same (Nat.le_refl _) fun _ _ _ => rfl
theorem IsDisk.belowed {K : Nat → Prop} {w w' : World} {L : Loc} {S : St} (h : IsDisk K w L S) (hb : Below w.heap.size w w') : IsDisk K w' L S := h.same hb.size fun k hk _ => hb.block k hk
/-- A cell of a block that is kept is written. -/
theorem IsDisk.beside {K : Nat → Prop} {w : World} {L : Loc} {S : St} (h : IsDisk K w L S) {p : Addr} (hp : K p.block) (u : Value) : IsDisk K (w.setCell p u) L S :=
  h.same (by simp) fun k _ hf => Below.heap_setCell w p u k (fun e => h.nK k hf (e ▸ hp))
theorem IsDisk.turnK {K K' : Nat → Prop} {w : World} {L : Loc} {S : St} (h : IsDisk K w L S) (hn : ∀ k, L.foot k → ¬ K' k) (hl : ∀ k, K' k → k < w.heap.size) : IsDisk K' w L S := { h with nK := hn, kl := hl }
/-- What is kept may be less. -/
theorem IsDisk.less {K K' : Nat → Prop} {w : World} {L : Loc} {S : St} (h : IsDisk K w L S) (hK : ∀ k, K' k → K k) : IsDisk K' w L S := h.turnK (fun k hf hk => h.nK k hf (hK k hk)) (fun k hk => h.kl k (hK k hk))

/-- The head turned, all else as it was. -/
theorem IsDisk.headed {K : Nat → Prop} {w w' : World} {L : Loc} {S : St} (h : IsDisk K w L S) (hs : w.heap.size ≤ w'.heap.size) (hb : ∀ k, k < w.heap.size → k ≠ L.b → w'.heap[k]? = w.heap[k]?) (written : Nat) (left : Int)
    (hh : Head w' L.b (.slice (some ⟨L.sb, 0, none⟩) S.n S.n) L.wv (.map (some L.mb)) (.int .i64 (written : Nat)) (.int .i64 left)) (hw : written ≤ 1000000000) (h1 : -1 ≤ left) (h2 : left ≤ 9223372036854775807) : IsDisk K w' L { S with written := written, left := left } where
  head := hh
  safe i hi := rangeAt_same (h.safe i hi) (hb _ (h.lt _ (.inr (.inl rfl))) h.ne1.symm)
  there := there_same h.there (hb _ (h.lt _ (.inr (.inl rfl))) h.ne1.symm)
  waits := ownsRow_same h.waits fun g hg => hb _ (h.lt _ (.inr (.inr (.inr hg)))) (h.ne4 g hg).1
  map := by
    obtain ⟨D, h1, h2⟩ := h.map
    exact ⟨D, ownsMap_same h1 (hb _ (h.lt _ (.inr (.inr (.inl rfl)))) h.ne2.symm), h2⟩
  nK := h.nK
  lt k hk := Nat.lt_of_lt_of_le (h.lt k hk) hs
  ne1 := h.ne1
  ne2 := h.ne2
  ne3 := h.ne3
  ne4 := h.ne4
  kl k hk := Nat.lt_of_lt_of_le (h.kl k hk) hs
  ok := ⟨h.ok.n1, h.ok.n2, h.ok.at', h.ok.many, hw, h1, h2⟩
theorem IsDisk.setLeft {K : Nat → Prop} {w : World} {L : Loc} {S : St} (h : IsDisk K w L S) (left : Int) (h1 : -1 ≤ left) (h2 : left ≤ 9223372036854775807) : IsDisk K (w.setCell ⟨L.b, 4, none⟩ (.int .i64 left)) L { S with left := left } :=
  h.headed (by simp) (fun k _ hk => Below.heap_setCell w _ _ k hk) S.written left (h.head.set4 _) h.ok.wr h1 h2

def Disk (K : Nat → Prop) (w : World) (b : Nat) (S : St) : Prop := ∃ sb mb wv, IsDisk K w ⟨b, sb, mb, wv⟩ S
theorem IsDisk.disk {K : Nat → Prop} {w : World} {L : Loc} {S : St} (h : IsDisk K w L S) : Disk K w L.b S := ⟨L.sb, L.mb, L.wv, h⟩
end Go.Proofs.Ytjjodmppneonjaa
