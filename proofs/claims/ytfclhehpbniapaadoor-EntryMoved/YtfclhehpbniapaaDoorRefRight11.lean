/- The document's Right of lists of mapped pages. -/
import Derived.Test.YtfclhehpbniapaaDoorMd11
import Derived.Test.YtfclhehpbniapaaDoorWalkNum10
import Derived.Lib.QuietBelow
namespace Go.Proofs.YtfclhehpbniapaaDoor
open Go.RowKit
set_option linter.unusedVariables false

/-- A mapped page is right for so many slots. -/
def okM (n : Int) (m : Md) : Bool := isR m.k && decide (0 ≤ m.s ∧ m.s < n ∧ 1 ≤ m.g ∧ m.g ≤ 281474976710655)
/-- It stands in order behind the one ahead. -/
def aheadM (l : List Md) (j : Nat) (m : Md) : Bool := match j with
  | 0 => true
  | i + 1 => match l[i]? with
    | some q => ltK q.k m.k
    | none => true
def freshM (pre : List Md) (m : Md) : Bool := pre.all fun q => decide (q.s ≠ m.s)
def stepM (n : Int) (l : List Md) (j : Nat) : Bool := match l[j]? with
  | some m => okM n m && aheadM l j m && freshM (l.take j) m
  | none => true
/-- The list is right. -/
def rightM (n : Int) (l : List Md) : Bool := (List.range l.length).all fun j => stepM n l j
theorem rightM_no {n : Int} {l : List Md} {j : Nat} (hj : j < l.length) (h : stepM n l j = false) : rightM n l = false := by
  unfold rightM
  rw [List.all_eq_false]
  exact ⟨j, List.mem_range.2 hj, by simp [h]⟩
theorem rightM_yes {n : Int} {l : List Md} (h : ∀ j, j < l.length → stepM n l j = true) : rightM n l = true := by
  unfold rightM
  rw [List.all_eq_true]
  exact fun j hj => h j (List.mem_range.1 hj)
theorem stepM_at {n : Int} {l : List Md} {j : Nat} {m : Md} (h : l[j]? = some m) : stepM n l j = (okM n m && aheadM l j m && freshM (l.take j) m) := by
  unfold stepM
  rw [h]
theorem fresh_snoc {pre : List Md} {q m : Md} : freshM (pre ++ [q]) m = (freshM pre m && decide (q.s ≠ m.s)) := by simp [freshM]
theorem fresh_hit {l : List Md} {j k : Nat} {q m : Md} (hj : l[j]? = some q) (hk : j < k) (e : q.s = m.s) : freshM (l.take k) m = false := by
  unfold freshM
  rw [List.all_eq_false]
  refine ⟨q, ?_, by simp [e]⟩
  exact List.mem_of_getElem? (i := j) (by rw [List.getElem?_take_of_lt hk]; exact hj)
theorem new_five (V : World) (a b c d e : Value) (t : TypeId) : (V.alloc (.cells #[a, b, c, d, e] t)).cell? ⟨V.heap.size, 0, none⟩ = some a ∧ (V.alloc (.cells #[a, b, c, d, e] t)).cell? ⟨V.heap.size, 1, none⟩ = some b ∧ (V.alloc (.cells #[a, b, c, d, e] t)).cell? ⟨V.heap.size, 2, none⟩ = some c ∧ (V.alloc (.cells #[a, b, c, d, e] t)).cell? ⟨V.heap.size, 3, none⟩ = some d ∧ (V.alloc (.cells #[a, b, c, d, e] t)).cell? ⟨V.heap.size, 4, none⟩ = some e :=
  ⟨by simp, by simp, by simp, by simp, by simp⟩
theorem Tryd.mixed11 : Tryd.prog.follows .mixedOrders = true := by kernel_rfl
end Go.Proofs.YtfclhehpbniapaaDoor
