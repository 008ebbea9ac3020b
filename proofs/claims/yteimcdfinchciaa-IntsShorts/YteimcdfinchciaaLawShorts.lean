/- The walk of the law 'IntsShorts': it returns true for every input. -/
import Derived.Test.YteimcdfinchciaaLawUps
namespace Go.Proofs.Yteimcdfinchciaa
open Go.RowKit
set_option linter.unusedVariables false

theorem sgn_fits (n : Int) (k : Nat) (h : sgnI n k = n) : -2 ^ k ≤ 2 * n ∧ 2 * n < 2 ^ k := by
  obtain ⟨r0, r1⟩ := sgn_bounds n k
  unfold sgnI at h
  split at h <;> omega
theorem fits_sgn (n : Int) (k : Nat) (h1 : -2 ^ k ≤ 2 * n) (h2 : 2 * n < 2 ^ k) : sgnI n k = n := by
  have hp := two_pow_pos k
  unfold sgnI
  by_cases hn : 0 ≤ n
  · rw [Int.emod_eq_of_lt hn (by omega), if_neg (by omega)]
  · have e : n % 2 ^ k = n + 2 ^ k := by
      rw [← Int.add_emod_right]
      exact Int.emod_eq_of_lt (by omega) (by omega)
    rw [e, if_pos (by omega)]; omega
theorem sgn_more (n : Int) (k : Nat) (h : sgnI n k = n) : sgnI n (k + 1) = n := by
  obtain ⟨h1, h2⟩ := sgn_fits n k h
  have hp := two_pow_pos k
  exact fits_sgn n (k + 1) (by rw [two_pow_succ]; omega) (by rw [two_pow_succ]; omega)
theorem oct_fill (n : Int) (k i : Nat) (h : sgnI n k = n) (hi : k ≤ 8 * i) : (n < 0 → octet n i = 255) ∧ (0 ≤ n → octet n i = 0) := by
  obtain ⟨h1, h2⟩ := sgn_fits n k h
  have hp := two_pow_pos (8 * i)
  have hle : (2 : Int) ^ k ≤ 2 ^ (8 * i) := by
    have e : (2 : Int) ^ (8 * i) = 2 ^ k * 2 ^ (8 * i - k) := by rw [← Int.pow_add, show k + (8 * i - k) = 8 * i by omega]
    have h3 : (1 : Int) ≤ 2 ^ (8 * i - k) := two_pow_pos _
    have := Int.mul_le_mul_of_nonneg_left h3 (Int.le_of_lt (two_pow_pos k))
    omega
  unfold octet
  constructor
  · intro hn
    have : n / 2 ^ (8 * i) = -1 := by
      rw [Int.ediv_eq_iff_of_pos hp]; omega
    rw [this]; rfl
  · intro hn
    rw [Int.ediv_eq_zero_of_lt hn (by omega)]; rfl

theorem octL_get (n : Int) (k j : Nat) (h : j < k) : ((octL n k).map (Value.int .u8)).toArray[j]? = some (.int .u8 (octet n j)) := by
  simp [octL, h]

theorem intsShorts_walk (n b : Int) (w0 : (Lit.int .i64 n).wf = true) (w1 : (Lit.int .i64 b).wf = true) (w : World) :
    Calls Try.prog 8 #[.int .i64 n, .int .i64 b] w fun e w' => e = .returned (.bool true) ∧ Below w.heap.size w w' := by
  clear w0 w1
  by_cases hb : b < 1
  · go_enter Try.func8, Try.ntmps8
    go_wp2_with fail
    refine (awake_any _).mono ?_
    rintro e w1 ⟨rfl, hb1⟩
    go_wp2_with fail
    refine (awake_any _).mono ?_
    rintro e w2 ⟨rfl, hb2⟩
    go_wp2
    go_ret
    exact ⟨rfl, hb1.trans (hb2.mono hb1.size)⟩
  by_cases hb' : 63 < b
  · go_enter Try.func8, Try.ntmps8
    go_wp2_with fail
    refine (awake_any _).mono ?_
    rintro e w1 ⟨rfl, hb1⟩
    go_wp2_with fail
    refine (awake_any _).mono ?_
    rintro e w2 ⟨rfl, hb2⟩
    go_wp2
    go_ret
    exact ⟨rfl, hb1.trans (hb2.mono hb1.size)⟩
  obtain ⟨k, rfl⟩ := Int.eq_ofNat_of_zero_le (show 0 ≤ b by omega)
  have E1 : Hid (cl (k : Int) 64 = k) := by unfold Hid cl; omega
  have E2 : Hid (cl ((k : Int) + 1) 64 = k + 1) := by unfold Hid cl; omega
  have E8 : Hid (cl 8 8 = 8) := by unfold Hid; decide
  by_cases hs : sgnI n k = n
  · have HS : Hid (sgnI n k = n) := hs
    have H2 : Hid (sgnI n (k + 1) = n) := sgn_more n k hs
    have HF : Hid (∀ i : Nat, k ≤ 8 * i → (n < 0 → octet n i = 255) ∧ (0 ≤ n → octet n i = 0)) := fun i hi => oct_fill n k i hs hi
    clear hs
    go_enter Try.func8, Try.ntmps8
    go_wp2_with fail
    refine (awake_any _).mono ?_
    rintro e w1 ⟨rfl, hb1⟩
    go_wp2_with fail
    refine (short_any n k _).mono ?_
    rintro e w2 ⟨rfl, rfl⟩
    rw [E1.out, HS.out, beq_self_eq_true]
    go_wp2_with fail
    refine (short_any n (k + 1) _).mono ?_
    rintro e w3 ⟨rfl, rfl⟩
    rw [E2.out, H2.out, beq_self_eq_true]
    go_wp2_with fail
    refine (lay_any n 8 _).mono ?_
    rintro e w4 ⟨rfl, rfl⟩
    rw [E8.out]
    go_wp2_with fail
    refine (short_any n k _).mono ?_
    rintro e w5 ⟨rfl, rfl⟩
    rw [E1.out, HS.out, beq_self_eq_true]
    go_wp2
    go_loop [6] (fun i => ∃ j : Nat, k ≤ 8 * j ∧ j ≤ 8 ∧ i = .int .i64 j) (fun i => 8 - (intOf i).toNat)
    case atStart => exact ⟨(k + 7) / 8, by omega, by omega, by congr 1⟩
    case round =>
      obtain ⟨j, hj, hj8, rfl⟩ := hrel
      by_cases hlt : j < 8
      · have hget := octL_get n 8 j hlt
        have hf := HF.out j hj
        by_cases hn : n < 0
        · have hv := hf.1 hn
          rw [hv] at hget
          clear hf hv
          go_wp2
          go_round
          case rel => exact ⟨j + 1, by omega, by omega, by go_num⟩
          case measure => simp [intOf]; omega
        · have hv := hf.2 (by omega)
          rw [hv] at hget
          clear hf hv
          go_wp2
          go_round
          case rel => exact ⟨j + 1, by omega, by omega, by go_num⟩
          case measure => simp [intOf]; omega
      · go_wp2
        go_ret
        exact ⟨rfl, hb1.alloc hb1.size _⟩
  · have HS : Hid ((sgnI n k == n) = false) := beq_eq_false_iff_ne.2 hs
    clear hs
    go_enter Try.func8, Try.ntmps8
    go_wp2_with fail
    refine (awake_any _).mono ?_
    rintro e w1 ⟨rfl, hb1⟩
    go_wp2_with fail
    refine (short_any n k _).mono ?_
    rintro e w2 ⟨rfl, rfl⟩
    rw [E1.out, HS.out]
    go_wp2_with fail
    refine (lay_any n 8 _).mono ?_
    rintro e w4 ⟨rfl, rfl⟩
    rw [E8.out]
    go_wp2_with fail
    refine (short_any n k _).mono ?_
    rintro e w5 ⟨rfl, rfl⟩
    rw [E1.out, HS.out]
    go_wp2
    go_ret
    exact ⟨rfl, hb1.alloc hb1.size _⟩
end Go.Proofs.Yteimcdfinchciaa
