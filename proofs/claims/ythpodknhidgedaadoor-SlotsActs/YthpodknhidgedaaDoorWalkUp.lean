/- Contracts of the two 'Up' functions of layer 1: what each call returns, for every pair of ints. -/
import Derived.Test.YthpodknhidgedaaDoorProg
import Derived.Test.YthpodknhidgedaaDoorMath

namespace Go.Proofs.YthpodknhidgedaaDoor
open Go.RowKit
set_option linter.unusedVariables false


def upI (n to : Int) : Int :=
  if n < 1 ∨ to < 1 then 0
  else if 0 < n % to then (if 4611686018427387904 - (to - n % to) < n then 0 else n + (to - n % to))
  else if 4611686018427387904 < n then 0 else n

theorem upI_a (n t : Int) (h : n < 1 ∨ t < 1) : upI n t = 0 := by unfold upI; rw [if_pos h]
theorem upI_b (n t : Int) (h : 1 ≤ n) (h2 : 1 ≤ t) (h3 : 0 < n % t) (h4 : 4611686018427387904 - (t - n % t) < n) : upI n t = 0 := by
  unfold upI; rw [if_neg (by omega), if_pos h3, if_pos h4]
theorem upI_c (n t : Int) (h : 1 ≤ n) (h2 : 1 ≤ t) (h3 : 0 < n % t) (h4 : n ≤ 4611686018427387904 - (t - n % t)) : upI n t = n + (t - n % t) := by
  unfold upI; rw [if_neg (by omega), if_pos h3, if_neg (by omega)]
theorem upI_d (n t : Int) (h : 1 ≤ n) (h2 : 1 ≤ t) (h3 : n % t ≤ 0) (h4 : 4611686018427387904 < n) : upI n t = 0 := by
  unfold upI; rw [if_neg (by omega), if_neg (by omega), if_pos h4]
theorem upI_e (n t : Int) (h : 1 ≤ n) (h2 : 1 ≤ t) (h3 : n % t ≤ 0) (h4 : n ≤ 4611686018427387904) : upI n t = n := by
  unfold upI; rw [if_neg (by omega), if_neg (by omega), if_neg (by omega)]

theorem up_any (n t : Int) (w : World) (hn1 : -9223372036854775808 ≤ n) (hn2 : n ≤ 9223372036854775807) (ht1 : -9223372036854775808 ≤ t) (ht2 : t ≤ 9223372036854775807) :
    Calls Tryd.prog 33 #[.int .i64 n, .int .i64 t] w fun e w' => e = .returned (.int .i64 (upI n t)) ∧ w' = w := by
  by_cases h1 : n < 1
  · go_enter Tryd.func33, Tryd.ntmps33
    go_wp2
    go_ret
    exact ⟨ret_int (upI_a n t (Or.inl h1)).symm, rfl⟩
  · by_cases h2 : t < 1
    · go_enter Tryd.func33, Tryd.ntmps33
      go_wp2
      go_ret
      exact ⟨ret_int (upI_a n t (Or.inr h2)).symm, rfl⟩
    · have hr0 : 0 ≤ n % t := Int.emod_nonneg _ (by omega)
      have hr1 : n % t < t := Int.emod_lt_of_pos _ (by omega)
      by_cases h3 : 0 < n % t
      · by_cases h4 : 4611686018427387904 - (t - n % t) < n
        · go_enter Tryd.func33, Tryd.ntmps33
          go_wp2
          go_ret
          exact ⟨ret_int (upI_b n t h1 h2 h3 h4).symm, rfl⟩
        · go_enter Tryd.func33, Tryd.ntmps33
          go_wp2
          go_ret
          exact ⟨ret_int (upI_c n t h1 h2 h3 h4).symm, rfl⟩
      · by_cases h4 : 4611686018427387904 < n
        · go_enter Tryd.func33, Tryd.ntmps33
          go_wp2
          go_ret
          exact ⟨ret_int (upI_d n t h1 h2 h3 h4).symm, rfl⟩
        · go_enter Tryd.func33, Tryd.ntmps33
          go_wp2
          go_ret
          exact ⟨ret_int (upI_e n t h1 h2 h3 h4).symm, rfl⟩

end Go.Proofs.YthpodknhidgedaaDoor
