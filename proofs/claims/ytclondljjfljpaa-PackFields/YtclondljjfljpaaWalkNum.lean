/- Contracts of zigzag, turning and the greatest bit: the program's functions and the reference's. -/
import Derived.Test.YtclondljjfljpaaWalkSmall
import Derived.Test.YtclondljjfljpaaMathNum
namespace Go.Proofs.Ytclondljjfljpaa
open Go.RowKit
set_option linter.unusedVariables false

theorem zig_any (n : Int) (w : World) (h1 : -9223372036854775808 ≤ n) (h2 : n ≤ 9223372036854775807) :
    Calls Try.prog 51 #[.int .i64 n] w fun e w' => e = .returned (.int .u64 (zigI n)) ∧ w' = w := by
  go_enter Try.func51, Try.ntmps51
  go_wp2
  go_ret
  exact ⟨ret_int (zig_math n h1 h2), rfl⟩

theorem refZig_any (n : Int) (w : World) (h1 : -9223372036854775808 ≤ n) (h2 : n ≤ 9223372036854775807) :
    Calls Try.prog 49 #[.int .i64 n] w fun e w' => e = .returned (.int .u64 (zigI n)) ∧ w' = w := by
  by_cases h : 0 ≤ n
  · go_enter Try.func49, Try.ntmps49
    go_wp2
    go_ret
    exact ⟨ret_int (by unfold zigI; rw [if_pos h]), rfl⟩
  · go_enter Try.func49, Try.ntmps49
    go_wp2
    go_ret
    exact ⟨ret_int (by unfold zigI; rw [if_neg (by omega)]; simp only [IntKind.wrap_u64]; omega), rfl⟩

theorem zag_any (u : Int) (w : World) (h1 : 0 ≤ u) (h2 : u ≤ 18446744073709551615) :
    Calls Try.prog 39 #[.int .u64 u] w fun e w' => e = .returned (.int .i64 (zagI u)) ∧ w' = w := by
  have HA : Hid (bits .and .u64 u 1 = u % 2) := and_one u h1 h2
  go_enter Try.func39, Try.ntmps39
  go_wp2
  go_ret
  refine ⟨ret_int ?_, rfl⟩
  rw [HA.out]
  unfold zagI
  by_cases h : u % 2 = 0
  · rw [if_pos h, h]
    simp [wrap64]
    rw [xor_i64_zero _ (by omega) (by omega)]
  · rw [if_neg h]
    have h' : u % 2 = 1 := by omega
    rw [h']
    simp [wrap64]
    rw [xor_i64_ones _ (by omega) (by omega)]

end Go.Proofs.Ytclondljjfljpaa
