/- Contracts of the reference's 'Lay' and of both 'Get': octets to numbers and back. -/
import Derived.Test.YthhdkadjlddmkaaDoorWalkGet
import Derived.Test.YthhdkadjlddmkaaDoorWalkBits
import Derived.Test.YthhdkadjlddmkaaDoorMathOct
namespace Go.Proofs.YthhdkadjlddmkaaDoor
open Go.RowKit
set_option linter.unusedVariables false

def accI (n : Int) (k t : Nat) : Int := n / 2 ^ (8 * k + t) % 2 ^ (8 - t)
theorem accI_start (n : Int) (k : Nat) : accI n k 8 = 0 := by unfold accI; simp
theorem accI_end (n : Int) (k : Nat) : accI n k 0 = octet n k := rfl
theorem accI_bd (n : Int) (k t : Nat) : 0 ≤ accI n k t ∧ accI n k t < 256 := by
  unfold accI
  have h1 := sgn_bounds (n / 2 ^ (8 * k + t)) (8 - t)
  have h2 : (2 : Int) ^ (8 - t) ≤ 256 := by
    have : 8 - t = 0 ∨ 8 - t = 1 ∨ 8 - t = 2 ∨ 8 - t = 3 ∨ 8 - t = 4 ∨ 8 - t = 5 ∨ 8 - t = 6 ∨ 8 - t = 7 ∨ 8 - t = 8 := by omega
    rcases this with h | h | h | h | h | h | h | h | h <;> rw [h] <;> decide
  omega
theorem accI_step (n : Int) (k t : Nat) (ht : t + 1 ≤ 8) : accI n k (t + 1) * 2 + n / 2 ^ (8 * k + t) % 2 = accI n k t := by
  have := bits_down n (8 * k + t) (8 - (t + 1))
  rw [show 8 - (t + 1) + 1 = 8 - t by omega] at this
  exact this

end Go.Proofs.YthhdkadjlddmkaaDoor
