/- The document's Get of a list of mapped pages. (Written by wip/mk_refget11.py.) -/
import Derived.Test.YtfclhehpbniapaaDoorGetMath11
import Derived.Test.YtfclhehpbniapaaDoorRefRight11
namespace Go.Proofs.YtfclhehpbniapaaDoor
open Go.RowKit
set_option linter.unusedVariables false

/-- A mapped page in a block of its own. -/
def MdAt (w : World) (b : Nat) (m : Md) : Prop := w.heap[b]? = some (.cells #[.int .i64 m.h, .int .i64 m.p, .int .i64 m.s, .int .i64 m.g, .int .u32 (m.u : Nat)] 51 (0, 0))
theorem MdAt.cells {w : World} {b : Nat} {m : Md} (h : MdAt w b m) : w.cell? ⟨b, 0, none⟩ = some (.int .i64 m.h) ∧ w.cell? ⟨b, 1, none⟩ = some (.int .i64 m.p) ∧ w.cell? ⟨b, 2, none⟩ = some (.int .i64 m.s) ∧ w.cell? ⟨b, 3, none⟩ = some (.int .i64 m.g) ∧ w.cell? ⟨b, 4, none⟩ = some (.int .u32 (m.u : Nat)) := by
  refine ⟨?_, ?_, ?_, ?_, ?_⟩ <;> rw [cell_of_row _ _ _ _ _ _ h] <;> rfl
theorem MdAt.below {w w' : World} {b : Nat} {m : Md} (h : MdAt w b m) (hb : Below w.heap.size w w') : MdAt w' b m := (hb.block b (lt_of_heap h)).trans h
theorem MdAt.frozen {w : World} {b : Nat} {m : Md} (h : MdAt w b m) (i : Nat) : w.frozen? ⟨b, i, none⟩ = false := by
  simp [World.frozen?, show w.heap[b]? = _ from h]
theorem MdAt.set_s {w : World} {b : Nat} {m : Md} (h : MdAt w b m) (v : Int) : MdAt (w.setCell ⟨b, 2, none⟩ (.int .i64 v)) b { m with s := v } := (heap_set_row h 2 _).trans rfl
theorem MdAt.set_g {w : World} {b : Nat} {m : Md} (h : MdAt w b m) (v : Int) : MdAt (w.setCell ⟨b, 3, none⟩ (.int .i64 v)) b { m with g := v } := (heap_set_row h 3 _).trans rfl
theorem MdAt.set_u {w : World} {b : Nat} {m : Md} (h : MdAt w b m) (v : Nat) : MdAt (w.setCell ⟨b, 4, none⟩ (.int .u32 (v : Nat))) b { m with u := v } := (heap_set_row h 4 _).trans rfl
theorem own_below11 {w w' : World} {base n k : Nat} {e : TypeId} {v : Value} {xs : List Value} (h : w.ownsRow base e k v n xs) (hb : Below w.heap.size w w') : w'.ownsRow base e k v n xs :=
  ownsRow_same h fun g hg => by
    rcases h.2 with ⟨rfl, _⟩ | ⟨g', cap, cur, rfl, _, hgg, _⟩
    · simp [Value.ownBlock] at hg
    · simp [Value.ownBlock] at hg
      subst hg
      exact hb.block _ (lt_of_heap hgg)
theorem below_grownK {B k : Nat} {w w' : World} {e : TypeId} {v : Value} {n : Nat} {xs : List Value} (hown : w.ownsRow B e k v n xs) (hg : w.grownBy w' v.ownBlock) (hB : B ≤ w.heap.size) : Below B w w' :=
  (Below.refl B w).grown hg hB fun j hj => (hown.lt j hj).1
theorem Tryd.infoM11 : (Tryd.prog.info? 51).map (fun i => (i.zero, i.size, i.bytes)) = some (some (.agg #[.int .i64 0, .int .i64 0, .int .i64 0, .int .i64 0, .int .u32 0]), 5, 40) := by kernel_rfl
theorem els_one11 {w : World} {m : Nat} {x : Md} {e : TypeId} (h : w.heap.size = m) : Els encM 5 (w.alloc (.cells (encM x).toArray e)) (.slice (some ⟨m, 0, none⟩) 1 1) [x] := by subst h; exact Els.one encM_ok
/-- How many octets an answer has. -/
def ansC : Option (List Md) → Int
  | none => 0
  | some l => 4 + 18 * (l.length : Nat)
theorem slice_len {zs : List Nat} {k i : Nat} (h : 4 + 18 * k ≤ zs.length) (hi : i < k) : (sliceG zs i).length = 18 := by
  rw [sliceG, List.length_take, List.length_drop]; omega
theorem part_small {zs : List Nat} (h : ∀ z ∈ zs, z < 256) (a b : Nat) : ∀ z ∈ (zs.drop a).take b, z < 256 := fun z hz => h z (List.mem_of_mem_drop (List.mem_of_mem_take hz))

end Go.Proofs.YtfclhehpbniapaaDoor
