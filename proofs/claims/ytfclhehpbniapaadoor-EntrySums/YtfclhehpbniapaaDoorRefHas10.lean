/- The document's Has and Same over keys. -/
import Derived.Test.YtfclhehpbniapaaDoorKeys10
namespace Go.Proofs.YtfclhehpbniapaaDoor
open Go.RowKit
set_option linter.unusedVariables false

def hasK (ks : List Ky) (k : Ky) : Bool := decide (k ∈ ks)
theorem take_snocA {α : Type} {l : List α} {k : Nat} {x : α} (h : l[k]? = some x) : l.take (k + 1) = l.take k ++ [x] := by
  rw [List.take_add_one, h]; rfl
theorem key_at {ks : List Ky} {j : Nat} (h : j < ks.length) : ∃ h' p', ks[j]? = some (h', p') := ⟨ks[j].1, ks[j].2, List.getElem?_eq_getElem h⟩
/-! ### Same -/
def sameK (us vs : List Ky) : Bool := decide (us = vs)
end Go.Proofs.YtfclhehpbniapaaDoor
