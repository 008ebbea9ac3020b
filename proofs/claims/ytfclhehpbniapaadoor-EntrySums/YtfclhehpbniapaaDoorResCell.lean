/- Results that lie in cells; numbers that fit an int. Generic. -/
import Derived.WalkKit
import Derived.ProofKit
import Derived.Below
import Derived.Laws.ResultCell
import Derived.BigQuiet
namespace Go.Proofs.YtfclhehpbniapaaDoor
open Go.RowKit

/-- It fits an int. -/
def I64 (z : Int) : Prop := -9223372036854775808 ≤ z ∧ z ≤ 9223372036854775807
theorem below_dr (w : World) (n : Nat) : Below w.heap.size w (w.drewN n) := ⟨rfl, rfl, rfl, Nat.le_refl _, fun _ _ => rfl⟩
theorem below_dr1 (w : World) : Below w.heap.size w w.drew := ⟨rfl, rfl, rfl, Nat.le_refl _, fun _ _ => rfl⟩

/-! ### Results that lie in cells -/
theorem results_cell1 {fn : Func} {t : Tmp} {ty : TypeId} (h : fn.results = #[.cell t ty]) {tmps : Array Value} {P : Program} {w : World} {a : Addr} {v : Value} (h2 : tmps.getD t undef = .pointer (some a)) (hld : (loadVar ty a).run P w = .ok v w) : (results fn tmps).run P w = .ok v w := by
  have h4 : tmps[t]?.getD undef = .pointer (some a) := by rw [← h2]; simp
  simp only [results, h]
  simp [asAddr, hld, h4]
theorem results_cell2 {fn : Func} {t u : Tmp} {ty : TypeId} (h : fn.results = #[.cell t ty, .tmp u]) {tmps : Array Value} {P : Program} {w : World} {a : Addr} {v b : Value} (h2 : tmps.getD t undef = .pointer (some a)) (h3 : tmps.getD u undef = b) (hld : (loadVar ty a).run P w = .ok v w) : (results fn tmps).run P w = .ok (.tuple #[v, b]) w := by
  rw [results_cell_tmp h]
  simp [asAddr, Result.andThen, hld, h2, h3]
end Go.Proofs.YtfclhehpbniapaaDoor
