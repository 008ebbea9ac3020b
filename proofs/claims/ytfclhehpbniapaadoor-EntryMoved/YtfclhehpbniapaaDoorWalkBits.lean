/- Contracts of the reference's functions over lists of bits (of, Low, Signed): what each call returns. -/
import Derived.Test.YtfclhehpbniapaaDoorWalkSmall
import Derived.Test.YtfclhehpbniapaaDoorTools
namespace Go.Proofs.YtfclhehpbniapaaDoor
open Go.RowKit
set_option linter.unusedVariables false

theorem Tryd.infoInt : (Tryd.prog.info? 3).map (fun i => (i.zero, i.size, i.bytes)) = some (some (.int .i64 0), 1, 8) := by kernel_rfl
theorem Tryd.infoU8 : (Tryd.prog.info? 5).map (fun i => (i.zero, i.size, i.bytes)) = some (some (.int .u8 0), 1, 1) := by kernel_rfl

def lastI (n : Int) (k i : Nat) : Int := if i = 0 then 0 else sbit n k (i - 1)
theorem lastI_lo (n : Int) (k i : Nat) (h : i < k) : sbit n k i = n / 2 ^ i % 2 := by
  unfold sbit; rw [if_neg (by omega), show min i (k - 1) = i by omega]
theorem lastI_hi (n : Int) (k i : Nat) (h : ¬ i < k) : lastI n k i = sbit n k i := by
  unfold lastI sbit
  by_cases h0 : k = 0
  · simp [h0]
  · rw [if_neg (by omega), if_neg h0, if_neg h0, show min (i - 1) (k - 1) = min i (k - 1) by omega]
theorem lastI_succ (n : Int) (k i : Nat) : lastI n k (i + 1) = sbit n k i := by unfold lastI; rw [if_neg (by omega)]; simp

end Go.Proofs.YtfclhehpbniapaaDoor
