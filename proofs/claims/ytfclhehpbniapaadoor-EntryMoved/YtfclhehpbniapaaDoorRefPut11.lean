/- The document's Put of a list of mapped pages: its octets. (Written by wip/mk_refput11.py.) -/
import Derived.Test.YtfclhehpbniapaaDoorMd11
import Derived.Test.YtfclhehpbniapaaDoorRefRight11
import Derived.Test.YtfclhehpbniapaaDoorStrOct
import Derived.Test.YtfclhehpbniapaaDoorHeldMore
import Derived.Deep.DeepMust
namespace Go.Proofs.YtfclhehpbniapaaDoor
open Go.RowKit
set_option linter.unusedVariables false

/-- A mapped page's octets. -/
def recM (m : Md) : List Nat := octZ (numK m.k) 4 ++ octZ m.s 4 ++ octZ m.g 6 ++ octZ (m.u : Nat) 4
/-- A list's. -/
def putM (l : List Md) : List Nat := octZ (l.length : Nat) 4 ++ l.flatMap recM
theorem recM_length (m : Md) : (recM m).length = 18 := by simp [recM, octZ_length]
theorem recs_length (l : List Md) : (l.flatMap recM).length = 18 * l.length := by
  induction l with
  | nil => rfl
  | cons m r ih => rw [List.flatMap_cons, List.length_append, ih, recM_length, List.length_cons]; omega
theorem putM_length (l : List Md) : (putM l).length = 4 + 18 * l.length := by rw [putM, List.length_append, octZ_length, recs_length]
theorem recM_small (m : Md) : ∀ z ∈ recM m, z < 256 := by
  intro z hz
  simp only [recM, List.mem_append] at hz
  rcases hz with ((hz | hz) | hz) | hz <;> exact octZ_small _ _ z hz
theorem putM_small (l : List Md) : ∀ z ∈ putM l, z < 256 := by
  intro z hz
  simp only [putM, List.mem_append, List.mem_flatMap] at hz
  rcases hz with hz | ⟨m, _, hz⟩
  · exact octZ_small _ _ z hz
  · exact recM_small m z hz
/-- The octets of so many, behind how many there are. -/
def preM (l : List Md) (k : Nat) : List Nat := octZ (l.length : Nat) 4 ++ (l.take k).flatMap recM
theorem preM_succ {l : List Md} {k : Nat} {m : Md} (h : l[k]? = some m) : preM l (k + 1) = preM l k ++ recM m := by
  unfold preM
  rw [List.take_add_one, h]
  simp
theorem preM_length {l : List Md} {k : Nat} (h : k ≤ l.length) : (preM l k).length = 4 + 18 * k := by
  rw [preM, List.length_append, octZ_length, recs_length, List.length_take]
  omega

end Go.Proofs.YtfclhehpbniapaaDoor
