/- Contracts of the small functions of layer 1 that only reckon: within, Low, Signed, Short, and the reference's within, bit. -/
import Derived.Test.YtfclhehpbniapaaDoorProg
import Derived.Test.YtfclhehpbniapaaDoorMath
namespace Go.Proofs.YtfclhehpbniapaaDoor
open Go.RowKit
set_option linter.unusedVariables false

/-- n, but at least 0 and at most m. -/
def cl (n : Int) (m : Nat) : Nat := (max 0 (min n m)).toNat
theorem cl_le (n : Int) (m : Nat) : cl n m ≤ m := by unfold cl; omega
theorem cl_cast (n : Int) (m : Nat) : (cl n m : Int) = max 0 (min n m) := by unfold cl; omega

theorem within_any (n : Int) (m : Nat) (w : World) :
    Calls Tryd.prog 36 #[.int .i64 n, .int .i64 m] w fun e w' => e = .returned (.int .i64 (cl n m)) ∧ w' = w := by
  have E : Hid ((cl n m : Int) = max 0 (min n m)) := cl_cast n m
  by_cases h1 : (m : Int) < n
  · by_cases h2 : (0 : Int) < m
    · go_enter Tryd.func36, Tryd.ntmps36
      go_wp2
      go_ret
      exact ⟨ret_int (by rw [E.out]; omega), rfl⟩
    · go_enter Tryd.func36, Tryd.ntmps36
      go_wp2
      go_ret
      exact ⟨ret_int (by rw [E.out]; omega), rfl⟩
  · by_cases h2 : 0 < n
    · go_enter Tryd.func36, Tryd.ntmps36
      go_wp2
      go_ret
      exact ⟨ret_int (by rw [E.out]; omega), rfl⟩
    · go_enter Tryd.func36, Tryd.ntmps36
      go_wp2
      go_ret
      exact ⟨ret_int (by rw [E.out]; omega), rfl⟩

theorem refWithin_any (n : Int) (m : Nat) (w : World) :
    Calls Tryd.prog 27 #[.int .i64 n, .int .i64 m] w fun e w' => e = .returned (.int .i64 (cl n m)) ∧ w' = w := by
  have E : Hid ((cl n m : Int) = max 0 (min n m)) := cl_cast n m
  by_cases h1 : n < 0
  · go_enter Tryd.func27, Tryd.ntmps27
    go_wp2
    go_ret
    exact ⟨ret_int (by rw [E.out]; omega), rfl⟩
  · by_cases h2 : (m : Int) < n
    · go_enter Tryd.func27, Tryd.ntmps27
      go_wp2
      go_ret
      exact ⟨ret_int (by rw [E.out]; omega), rfl⟩
    · go_enter Tryd.func27, Tryd.ntmps27
      go_wp2
      go_ret
      exact ⟨ret_int (by rw [E.out]; omega), rfl⟩

theorem low_any (n m : Int) (w : World) :
    Calls Tryd.prog 38 #[.int .i64 n, .int .i64 m] w fun e w' => e = .returned (.int .i64 (lowI n (cl m 64))) ∧ w' = w := by
  have hk := cl_le m 64
  go_enter Tryd.func38, Tryd.ntmps38
  go_wp2_with fail
  refine (within_any m 64 _).mono ?_
  rintro e w' ⟨rfl, rfl⟩
  go_wp2
  go_ret
  exact ⟨ret_int (low_math n _ hk), rfl⟩



theorem bit_step (n : Int) (k : Nat) : n % 18446744073709551616 / 2 ^ k / 2 = n % 18446744073709551616 / 2 ^ (k + 1) := by
  rw [two_pow_succ, Int.ediv_ediv_of_nonneg (Int.le_of_lt (two_pow_pos k))]
theorem bit_bd (n : Int) (k : Nat) : 0 ≤ n % 18446744073709551616 / 2 ^ k ∧ n % 18446744073709551616 / 2 ^ k < 18446744073709551616 := by
  have h0 : 0 ≤ n % 18446744073709551616 := Int.emod_nonneg _ (by decide)
  have h1 : n % 18446744073709551616 < 18446744073709551616 := Int.emod_lt_of_pos _ (by decide)
  refine ⟨Int.ediv_nonneg h0 (Int.le_of_lt (two_pow_pos k)), ?_⟩
  exact Int.lt_of_le_of_lt (Int.ediv_le_self _ h0) h1
theorem bit_eq (n : Int) (k : Nat) (hk : k < 64) : n % 18446744073709551616 / 2 ^ k % 2 = n / 2 ^ k % 2 := by
  have h := two_pow_split (k + 1) (by omega)
  have e1 : n % 18446744073709551616 % 2 ^ (k + 1) = n % 2 ^ (k + 1) := emod_pow_U n (k + 1) (by omega)
  have e0 : n % 18446744073709551616 % 2 ^ k = n % 2 ^ k := emod_pow_U n k (by omega)
  rw [two_pow_succ, emod_mul_two _ _ (two_pow_pos k), emod_mul_two _ _ (two_pow_pos k), e0] at e1
  have hp := two_pow_pos k
  have e2 : 2 ^ k * (n % 18446744073709551616 / 2 ^ k % 2) = 2 ^ k * (n / 2 ^ k % 2) := by omega
  exact Int.eq_of_mul_eq_mul_left (Int.ne_of_gt hp) e2

theorem bit_any (n : Int) (i : Nat) (hi : i < 64) (w : World) :
    Calls Tryd.prog 28 #[.int .i64 n, .int .i64 i] w fun e w' => e = .returned (.int .i64 (n / 2 ^ i % 2)) ∧ w' = w := by
  have hfin : Hid (n % 18446744073709551616 / 2 ^ i % 2 = n / 2 ^ i % 2) := bit_eq n i hi
  go_enter Tryd.func28, Tryd.ntmps28
  go_wp2
  go_loop [1, 5] (fun j u => ∃ k : Nat, k ≤ i ∧ j = .int .i64 ((i - k : Nat) : Int) ∧ u = .int .u64 (n % 18446744073709551616 / 2 ^ k)) (fun j _ => (intOf j).toNat)
  case atStart => exact ⟨0, Nat.zero_le _, by simp, by simp [IntKind.wrap_u64]⟩
  case round =>
    obtain ⟨k, hk, rfl, rfl⟩ := hrel
    have hb := bit_bd n k
    have HS : Hid (n % 18446744073709551616 / 2 ^ k / 2 = n % 18446744073709551616 / 2 ^ (k + 1)) := bit_step n k
    by_cases hlt : k < i
    · go_wp2
      go_round
      case rel => exact ⟨k + 1, by omega, by congr 1; omega, by rw [← HS.out]⟩
      case measure => simp [intOf]; omega
    · have e : k = i := by omega
      subst e
      go_wp2
      go_ret
      exact ⟨ret_int (by rw [← hfin.out]), rfl⟩

end Go.Proofs.YtfclhehpbniapaaDoor
