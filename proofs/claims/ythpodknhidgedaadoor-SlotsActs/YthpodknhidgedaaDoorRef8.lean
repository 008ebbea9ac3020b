/- The document's row of bits: 'New', 'Turn' of one bit, 'Count'; 'Same'. -/
import Derived.Test.YthpodknhidgedaaDoorNew8
import Derived.BigQuiet
namespace Go.Proofs.YthpodknhidgedaaDoor
open Go.RowKit
set_option linter.unusedVariables false

/-! ### Same -/
theorem take_succ_eq {us vs : List Nat} {k : Nat} (h1 : k < us.length) (h2 : k < vs.length) (h : us.take k = vs.take k) (e : us[k]?.getD 0 = vs[k]?.getD 0) : us.take (k + 1) = vs.take (k + 1) := by
  rw [List.getElem?_eq_getElem h1, List.getElem?_eq_getElem h2] at e
  simp only [Option.getD_some] at e
  rw [List.take_add_one, List.take_add_one, h, List.getElem?_eq_getElem h1, List.getElem?_eq_getElem h2, e]
/-! ### The document's row -/
def boolL (B : Nat → Bool) (n : Nat) : List Value := (List.range n).map fun i => Value.bool (B i)
theorem boolL_length (B : Nat → Bool) (n : Nat) : (boolL B n).length = n := by simp [boolL]
theorem boolL_at (B : Nat → Bool) (n j : Nat) (h : j < n) : (boolL B n).toArray[j]? = some (Value.bool (B j)) := by simp [boolL, h]
theorem Tryd.infoBool : (Tryd.prog.info? 4).map (fun i => (i.zero, i.size, i.bytes)) = some (some (.bool false), 1, 1) := by kernel_rfl
theorem made_false (n : Nat) : madeCells #[Value.bool false] n = (boolL noneB n).toArray := by
  apply Array.ext'
  simp only [madeCells, boolL]
  apply List.ext_getElem?
  intro i
  by_cases h : i < n
  · simp [h, Nat.mod_one, noneB]
  · simp [h]
end Go.Proofs.YthpodknhidgedaaDoor
