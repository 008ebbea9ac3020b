/- Mapped pages in plain numbers; slices of them; the document's Same and Find. -/
import Derived.Test.YtfclhehpbniapaaDoorEls
import Derived.Test.YtfclhehpbniapaaDoorRefHas10
namespace Go.Proofs.YtfclhehpbniapaaDoor
open Go.RowKit Go.ChangeShapes Go.WideShapes Go.Deep
set_option linter.unusedVariables false

/-- A mapped page: heap, page, slot, gen, sum. -/
structure Md where
  h : Int
  p : Int
  s : Int
  g : Int
  u : Nat
theorem md_inh : Nonempty (Inhabited Md) := ⟨⟨⟨0, 0, 0, 0, 0⟩⟩⟩
/-- Its key. -/
def Md.k (m : Md) : Ky := (m.h, m.p)
def encM (m : Md) : List Value := [.int .i64 m.h, .int .i64 m.p, .int .i64 m.s, .int .i64 m.g, .int .u32 (m.u : Nat)]
theorem encM_ok : EncOk encM 5 := ⟨fun _ => rfl, fun x v hv => by simp only [encM, List.mem_cons, List.not_mem_nil, or_false] at hv; rcases hv with rfl | rfl | rfl | rfl | rfl <;> rfl, by decide⟩
def MdI (m : Md) : Prop := I64 m.h ∧ I64 m.p ∧ I64 m.s ∧ I64 m.g ∧ m.u < 4294967296
theorem md_eta (m : Md) : (⟨m.h, m.p, m.s, m.g, m.u⟩ : Md) = m := rfl
/-- The cells of an element. -/
theorem Els.md {w : World} {a : Option Addr} {n cap : Nat} {xs : List Md} (h : Els encM 5 w (.slice a n cap) xs) (h0 : 0 < n) : ∃ b off, a = some ⟨b, off, none⟩ ∧ b < w.heap.size ∧ ∀ j y, xs[j]? = some y →
    w.cell? ⟨b, off + j * 5, none⟩ = some (.int .i64 y.h) ∧ w.cell? ⟨b, off + j * 5 + 1, none⟩ = some (.int .i64 y.p) ∧ w.cell? ⟨b, off + j * 5 + 2, none⟩ = some (.int .i64 y.s) ∧ w.cell? ⟨b, off + j * 5 + 3, none⟩ = some (.int .i64 y.g) ∧ w.cell? ⟨b, off + j * 5 + 4, none⟩ = some (.int .u32 (y.u : Nat)) := by
  obtain ⟨b, off, rfl, hb, hc⟩ := h.addr h0
  exact ⟨b, off, rfl, hb, fun j y hj => ⟨hc j y hj 0 _ rfl, hc j y hj 1 _ rfl, hc j y hj 2 _ rfl, hc j y hj 3 _ rfl, hc j y hj 4 _ rfl⟩⟩
set_option maxRecDepth 20000 in
theorem open_mds {H : Type} {tok : TypeId × Value → H} {w : World} {base : Nat} {held : Bool} {a : Option Addr} {len cap : Nat} {d : DataW H} {p : List MemPlace}
    (h : DataW.Trod tok Tryd.prog w base (fun _ => true) held 32 (.slice a len cap) d p) : ∃ xs, Els encM 5 w (.slice a len cap) xs ∧ ∀ y ∈ xs, MdI y := by
  haveI : Inhabited Md := ⟨⟨0, 0, 0, 0, 0⟩⟩
  refine open_els encM_ok MdI Tryd.underlying32 (by kernel_rfl) ?_ h
  intro n cs x hl hx
  match cs, hl with
  | [v0, v1, v2, v3, v4], _ =>
    obtain ⟨z0, z1, n1, _, _, k0, k1⟩ := trod_struct2 Tryd.underlying51 hx
    have k0' : DataW.trod tok Tryd.prog w base (fun _ => true) held n1 23 [v0, v1] = some z0 := k0
    have k1' : DataW.trod tok Tryd.prog w base (fun _ => true) held n1 49 [v2, v3, v4] = some z1 := k1
    obtain ⟨a0, a1, n2, _, _, l0, l1⟩ := trod_struct2 Tryd.underlying23 k0'
    have l0' : DataW.trod tok Tryd.prog w base (fun _ => true) held n2 3 [v0] = some a0 := l0
    have l1' : DataW.trod tok Tryd.prog w base (fun _ => true) held n2 3 [v1] = some a1 := l1
    obtain ⟨b0, b1, b2, n3, _, _, m0, m1, m2⟩ := trod_struct3 Tryd.underlying49 k1'
    have m0' : DataW.trod tok Tryd.prog w base (fun _ => true) held n3 3 [v2] = some b0 := m0
    have m1' : DataW.trod tok Tryd.prog w base (fun _ => true) held n3 3 [v3] = some b1 := m1
    have m2' : DataW.trod tok Tryd.prog w base (fun _ => true) held n3 26 [v4] = some b2 := m2
    obtain ⟨i0, e0, _, w0⟩ := DataW.trod_int Tryd.underlying3 l0'
    obtain ⟨i1, e1, _, w1⟩ := DataW.trod_int Tryd.underlying3 l1'
    obtain ⟨i2, e2, _, w2⟩ := DataW.trod_int Tryd.underlying3 m0'
    obtain ⟨i3, e3, _, w3⟩ := DataW.trod_int Tryd.underlying3 m1'
    obtain ⟨i4, e4, _, w4⟩ := DataW.trod_int Tryd.underlying26 m2'
    simp at e0 e1 e2 e3 e4
    subst e0 e1 e2 e3 e4
    have hw4 : 0 ≤ i4 ∧ i4 ≤ 4294967295 := by simpa [Lit.wf, IntKind.min, IntKind.max, IntKind.signed, IntKind.bits] using w4
    obtain ⟨u, rfl⟩ : ∃ u : Nat, i4 = (u : Int) := ⟨i4.toNat, by rw [Int.toNat_of_nonneg]; omega⟩
    refine ⟨⟨i0, i1, i2, i3, u⟩, rfl, ?_, ?_, ?_, ?_, by simp only; omega⟩
    · simpa [Lit.wf, IntKind.min, IntKind.max, IntKind.signed, IntKind.bits, I64] using w0
    · simpa [Lit.wf, IntKind.min, IntKind.max, IntKind.signed, IntKind.bits, I64] using w1
    · simpa [Lit.wf, IntKind.min, IntKind.max, IntKind.signed, IntKind.bits, I64] using w2
    · simpa [Lit.wf, IntKind.min, IntKind.max, IntKind.signed, IntKind.bits, I64] using w3
theorem md_at {xs : List Md} {j : Nat} (h : j < xs.length) : ∃ h' p' s' g' u', xs[j]? = some ⟨h', p', s', g', u'⟩ := ⟨_, _, _, _, _, List.getElem?_eq_getElem h⟩

/-! ### Same, of two lists that are one -/
/-! ### Find -/
/-- A key's entry. -/
def findM : List Md → Ky → Option (Int × Int × Nat)
  | [], _ => none
  | m :: r, k => if m.k = k then some (m.s, m.g, m.u) else findM r k
theorem findM_append (l r : List Md) (k : Ky) (h : findM l k = none) : findM (l ++ r) k = findM r k := by
  induction l with
  | nil => rfl
  | cons x t ih =>
    unfold findM at h
    split at h
    · cases h
    · rename_i hx
      rw [List.cons_append, findM, if_neg hx]
      exact ih h
theorem findM_snoc_no {l : List Md} {j : Nat} {m : Md} {k : Ky} (hj : l[j]? = some m) (h : findM (l.take j) k = none) (hne : m.k ≠ k) : findM (l.take (j + 1)) k = none := by
  rw [take_snocA hj, findM_append _ _ _ h, findM, if_neg hne]
  rfl
theorem findM_hit {l : List Md} {j : Nat} {m : Md} {k : Ky} (hj : l[j]? = some m) (h : findM (l.take j) k = none) (he : m.k = k) : findM l k = some (m.s, m.g, m.u) := by
  have hl := (List.getElem?_eq_some_iff.1 hj).1
  have e : l = l.take j ++ m :: l.drop (j + 1) := by
    have h2 := List.getElem?_eq_getElem hl
    rw [hj, Option.some.injEq] at h2
    rw [h2, ← List.drop_eq_getElem_cons hl, List.take_append_drop]
  rw [e, findM_append _ _ _ h, findM, if_pos he]
/-- What Find answers. -/
def entV (o : Option (Int × Int × Nat)) : Value := .agg #[.int .i64 (o.getD (0, 0, 0)).1, .int .i64 (o.getD (0, 0, 0)).2.1, .int .u32 ((o.getD (0, 0, 0)).2.2 : Nat)]
theorem Tryd.sizeE11 : (Tryd.prog.info? 49).map (·.size) = some 3 := by kernel_rfl
theorem load_ent {w : World} {b : Nat} {s g u : Int} (c0 : w.cell? ⟨b, 0, none⟩ = some (.int .i64 s)) (c1 : w.cell? ⟨b, 1, none⟩ = some (.int .i64 g)) (c2 : w.cell? ⟨b, 2, none⟩ = some (.int .u32 u)) : (loadVar 49 ⟨b, 0, none⟩).run Tryd.prog w = .ok (.agg #[.int .i64 s, .int .i64 g, .int .u32 u]) w :=
  run_loadVar_mid (P := Tryd.prog) _ b 0 49 [.int .i64 s, .int .i64 g, .int .u32 u] _ (fun j v hv => by
    rw [Nat.zero_add]
    match j, hv with
    | 0, hv => simp at hv; subst hv; exact c0
    | 1, hv => simp at hv; subst hv; exact c1
    | 2, hv => simp at hv; subst hv; exact c2
    | j + 3, hv => simp at hv) Tryd.underlying49 rfl Tryd.sizeE11
theorem set_three {w : World} {b : Nat} {u v t : Value} (x y z : Value) (h0 : w.cell? ⟨b, 0, none⟩ = some u) (h1 : w.cell? ⟨b, 1, none⟩ = some v) (h2 : w.cell? ⟨b, 2, none⟩ = some t) :
    (((w.setCell ⟨b, 0, none⟩ x).setCell ⟨b, 1, none⟩ y).setCell ⟨b, 2, none⟩ z).cell? ⟨b, 0, none⟩ = some x ∧ (((w.setCell ⟨b, 0, none⟩ x).setCell ⟨b, 1, none⟩ y).setCell ⟨b, 2, none⟩ z).cell? ⟨b, 1, none⟩ = some y ∧ (((w.setCell ⟨b, 0, none⟩ x).setCell ⟨b, 1, none⟩ y).setCell ⟨b, 2, none⟩ z).cell? ⟨b, 2, none⟩ = some z := by
  have n1 : (⟨b, 1, none⟩ : Addr) ≠ ⟨b, 0, none⟩ := by simp
  have n2 : (⟨b, 2, none⟩ : Addr) ≠ ⟨b, 0, none⟩ := by simp
  have n3 : (⟨b, 2, none⟩ : Addr) ≠ ⟨b, 1, none⟩ := by simp
  have m1 : (⟨b, 0, none⟩ : Addr) ≠ ⟨b, 1, none⟩ := by simp
  have m2 : (⟨b, 0, none⟩ : Addr) ≠ ⟨b, 2, none⟩ := by simp
  have m3 : (⟨b, 1, none⟩ : Addr) ≠ ⟨b, 2, none⟩ := by simp
  have k1 : (w.setCell ⟨b, 0, none⟩ x).cell? ⟨b, 1, none⟩ = some v := by rw [World.cell?_setCell_other (h := m1)]; exact h1
  have k2 : ((w.setCell ⟨b, 0, none⟩ x).setCell ⟨b, 1, none⟩ y).cell? ⟨b, 2, none⟩ = some t := by rw [World.cell?_setCell_other (h := m3), World.cell?_setCell_other (h := m2)]; exact h2
  refine ⟨?_, ?_, World.cell?_setCell_same _ _ z k2⟩
  · rw [World.cell?_setCell_other (h := n2), World.cell?_setCell_other (h := n1), World.cell?_setCell_same (h := h0)]
  · rw [World.cell?_setCell_other (h := n3)]
    exact World.cell?_setCell_same _ _ y k1
theorem new_frozen (V : World) (c : Array Value) (t : TypeId) (i : Nat) : (V.alloc (.cells c t)).frozen? ⟨V.heap.size, i, none⟩ = false := by simp
theorem new_three (V : World) (u v z : Value) (t : TypeId) : (V.alloc (.cells #[u, v, z] t)).cell? ⟨V.heap.size, 0, none⟩ = some u ∧ (V.alloc (.cells #[u, v, z] t)).cell? ⟨V.heap.size, 1, none⟩ = some v ∧ (V.alloc (.cells #[u, v, z] t)).cell? ⟨V.heap.size, 2, none⟩ = some z :=
  ⟨by simp, by simp, by simp⟩
end Go.Proofs.YtfclhehpbniapaaDoor
