/- Contracts of the program's 'within' and 'Sectors' of layer 6. -/
import Derived.Test.YtndeknkfljnjoaaDoorWalkUp
import Derived.Test.YtndeknkfljnjoaaDoorTools
import Derived.WalkKit
import Derived.Below
namespace Go.Proofs.YtndeknkfljnjoaaDoor
open Go.RowKit
set_option linter.unusedVariables false

def wi6 (n l m : Int) : Bool := decide (l ≤ n ∧ n ≤ m)
theorem within6 (n l m : Int) (w : World) : Calls Tryd.prog 33 #[.int .i64 n, .int .i64 l, .int .i64 m] w fun e w' => e = .returned (.bool (wi6 n l m)) ∧ w' = w := by
  by_cases h1 : l ≤ n
  · by_cases h2 : n ≤ m
    · go_enter Tryd.func33, Tryd.ntmps33
      go_wp2
      go_ret
      exact ⟨ret_bool (show wi6 n l m = true from decide_eq_true ⟨h1, h2⟩).symm, rfl⟩
    · go_enter Tryd.func33, Tryd.ntmps33
      go_wp2
      go_ret
      exact ⟨ret_bool (show wi6 n l m = false from decide_eq_false fun e => by omega).symm, rfl⟩
  · go_enter Tryd.func33, Tryd.ntmps33
    go_wp2
    go_ret
    exact ⟨ret_bool (show wi6 n l m = false from decide_eq_false fun e => by omega).symm, rfl⟩

theorem sectors6 (n : Int) (w : World) (h1 : -9223372036854775808 ≤ n) (h2 : n ≤ 9223372036854775807) : Calls Tryd.prog 16 #[.int .i64 n] w fun x w' => x = .returned (.int .i64 (if 1 ≤ n ∧ n ≤ 65000 then (n + 111) / 112 + 1 else 0)) ∧ w' = w := by
  by_cases h : 1 ≤ n ∧ n ≤ 65000
  · have HD : Hid (wi6 n 1 65000 = true) := decide_eq_true h
    rw [if_pos h]
    have eu : upI n 112 = 112 * ((n + 111) / 112) := by
      by_cases h3 : 0 < n % 112
      · rw [upI_c n 112 h.1 (by decide) h3 (by omega)]; omega
      · rw [upI_e n 112 h.1 (by decide) (by omega) (by omega)]; omega
    obtain ⟨k, hk⟩ : ∃ k, k = (n + 111) / 112 := ⟨_, rfl⟩
    have hk2 : 1 ≤ k ∧ k ≤ 600 := by omega
    rw [← hk] at eu
    have HU : Hid (upI n 112 = 112 * k) := eu
    have e1 : (112 * k).tdiv 112 = k := by rw [Int.mul_tdiv_cancel_left _ (by decide)]
    have e2 : IntKind.i64.wrap k = k := by rw [IntKind.wrap_i64]; omega
    have e3 : IntKind.i64.wrap (k + 1) = k + 1 := by rw [IntKind.wrap_i64]; omega
    have HK : Hid (k = (n + 111) / 112) := hk
    clear eu hk
    go_enter Tryd.func16, Tryd.ntmps16
    go_wp2_with fail
    refine (within6 n 1 65000 w).mono ?_
    rintro e w1 ⟨rfl, rfl⟩
    rw [HD.out]
    go_wp2_with fail
    refine (up_any n 112 w1 h1 h2 (by decide) (by decide)).mono ?_
    rintro e w2 ⟨rfl, rfl⟩
    rw [HU.out]
    go_wp2
    go_ret
    rw [← HK.out]
    exact ⟨rfl, rfl⟩
  · have HD : Hid (wi6 n 1 65000 = false) := decide_eq_false h
    rw [if_neg h]
    go_enter Tryd.func16, Tryd.ntmps16
    go_wp2_with fail
    refine (within6 n 1 65000 w).mono ?_
    rintro e w1 ⟨rfl, rfl⟩
    rw [HD.out]
    go_wp2
    go_ret
    exact ⟨rfl, rfl⟩
end Go.Proofs.YtndeknkfljnjoaaDoor
