/- The walk of the law 'IntsUps': it returns true for every pair of ints. -/
import Derived.Test.YteimcdfinchciaaWalkAwake
namespace Go.Proofs.Yteimcdfinchciaa
open Go.RowKit
set_option linter.unusedVariables false

theorem bd_i64 {n : Int} (h : (Lit.int .i64 n).wf = true) : -9223372036854775808 ≤ n ∧ n ≤ 9223372036854775807 := by
  simpa [Lit.wf, IntKind.min, IntKind.max, IntKind.signed, IntKind.bits] using h
theorem bd_u64 {n : Int} (h : (Lit.int .u64 n).wf = true) : 0 ≤ n ∧ n ≤ 18446744073709551615 := by
  simpa [Lit.wf, IntKind.min, IntKind.max, IntKind.signed, IntKind.bits] using h
theorem bd_u32 {n : Int} (h : (Lit.int .u32 n).wf = true) : 0 ≤ n ∧ n ≤ 4294967295 := by
  simpa [Lit.wf, IntKind.min, IntKind.max, IntKind.signed, IntKind.bits] using h

/-- What the law asks of the answer, by plain arithmetic. -/
theorem up_prop (n t : Int) : upI n t = 0 ∨ (1 ≤ t ∧ 0 ≤ upI n t ∧ upI n t ≤ 4611686018427387904 ∧ n ≤ upI n t ∧ upI n t % t = 0 ∧ upI n t - t < n ∧ ¬ upI n t = 0) := by
  unfold upI
  by_cases h1 : n < 1 ∨ t < 1
  · rw [if_pos h1]; exact .inl rfl
  · rw [if_neg h1]
    have hr0 : 0 ≤ n % t := Int.emod_nonneg _ (by omega)
    have hr1 : n % t < t := Int.emod_lt_of_pos _ (by omega)
    by_cases h3 : 0 < n % t
    · rw [if_pos h3]
      by_cases h4 : 4611686018427387904 - (t - n % t) < n
      · rw [if_pos h4]; exact .inl rfl
      · rw [if_neg h4]
        right
        refine ⟨by omega, by omega, by omega, by omega, ?_, by omega, by omega⟩
        have e := Int.mul_ediv_add_emod n t
        have : n + (t - n % t) = t * (n / t + 1) := by rw [Int.mul_add]; omega
        rw [this]; exact Int.mul_emod_right _ _
    · rw [if_neg h3]
      by_cases h4 : 4611686018427387904 < n
      · rw [if_pos h4]; exact .inl rfl
      · rw [if_neg h4]
        right
        exact ⟨by omega, by omega, by omega, by omega, by omega, by omega, by omega⟩

theorem intsUps_walk (n t : Int) (w0 : (Lit.int .i64 n).wf = true) (w1 : (Lit.int .i64 t).wf = true) (w : World) :
    Calls Try.prog 7 #[.int .i64 n, .int .i64 t] w fun e w' => e = .returned (.bool true) ∧ Below w.heap.size w w' := by
  obtain ⟨n1, n2⟩ := bd_i64 w0
  obtain ⟨t1, t2⟩ := bd_i64 w1
  have HP := up_prop n t
  clear w0 w1
  go_enter Try.func7, Try.ntmps7
  go_wp2_with fail
  refine (awake_any _).mono ?_
  rintro e w1 ⟨rfl, hb1⟩
  go_wp2_with fail
  refine (up_any n t _ n1 n2 t1 t2).mono ?_
  rintro e w2 ⟨rfl, rfl⟩
  go_wp2_with fail
  refine (refUp_any n t _ n1 n2 t1 t2).mono ?_
  rintro e w3 ⟨rfl, rfl⟩
  generalize upI n t = x at *
  rcases HP with h0 | ⟨p1, p2, p3, p4, p5, p6, p7⟩
  · subst h0
    go_wp2
    go_ret
    exact ⟨rfl, hb1⟩
  · have p7' : (x == 0) = false := by simpa using p7
    have p5' : (x % t == 0) = true := by simpa using p5
    clear p5 p7
    go_wp2
    go_ret
    exact ⟨rfl, hb1⟩
end Go.Proofs.Yteimcdfinchciaa
