/- Plain arithmetic for layer 1 (ints): low bits, bits with a sign, sums of bits. No Go in sight. -/
import Derived.WalkKit
namespace Go.Proofs.YtfclhehpbniapaaDoor
open Go.RowKit

theorem ret_int {k : IntKind} {a b : Int} (h : a = b) : Ending.returned (.int k a) = .returned (.int k b) := by rw [h]
theorem ret_bool {a b : Bool} (h : a = b) : Ending.returned (.bool a) = .returned (.bool b) := by rw [h]

theorem two_pow_pos (k : Nat) : (0 : Int) < 2 ^ k := Int.pow_pos (by decide)
theorem two_pow_succ (k : Nat) : (2 : Int) ^ (k + 1) = 2 ^ k * 2 := Int.pow_succ 2 k
theorem two_pow_split (k : Nat) (h : k ≤ 64) : (2 : Int) ^ k * 2 ^ (64 - k) = 18446744073709551616 := by
  rw [← Int.pow_add, show k + (64 - k) = 64 by omega]; rfl
theorem two_pow_le (k : Nat) (h : k ≤ 64) : (2 : Int) ^ k ≤ 18446744073709551616 := by
  have h1 := two_pow_split k h
  have h2 := two_pow_pos k
  have h3 : (1 : Int) ≤ 2 ^ (64 - k) := two_pow_pos _
  have := Int.mul_le_mul_of_nonneg_left h3 (Int.le_of_lt h2)
  omega
theorem two_pow_lt (k : Nat) (h : k < 64) : (2 : Int) ^ k ≤ 9223372036854775808 := by
  have h1 := two_pow_le (k + 1) (by omega)
  rw [two_pow_succ] at h1
  omega

theorem emod_mul_two (n m : Int) (hm : 0 < m) : n % (m * 2) = n % m + m * (n / m % 2) := by
  have e1 := Int.mul_ediv_add_emod n m
  have r0 := Int.emod_nonneg n (Int.ne_of_gt hm)
  have r1 := Int.emod_lt_of_pos n hm
  have q := Int.mul_ediv_add_emod (n / m) 2
  have hn : n = (n % m + m * (n / m % 2)) + m * 2 * (n / m / 2) := by
    have : m * (n / m) = m * (2 * (n / m / 2) + n / m % 2) := by rw [q]
    rw [Int.mul_add, ← Int.mul_assoc] at this
    omega
  have hb : n / m % 2 = 0 ∨ n / m % 2 = 1 := by omega
  have hlt : 0 ≤ n % m + m * (n / m % 2) ∧ n % m + m * (n / m % 2) < m * 2 := by
    rcases hb with hb | hb <;> rw [hb] <;> constructor <;> simp <;> omega
  have h3 : (n % m + m * (n / m % 2) + m * 2 * (n / m / 2)) % (m * 2) = n % m + m * (n / m % 2) := by
    rw [Int.add_mul_emod_self_left]
    exact Int.emod_eq_of_lt hlt.1 hlt.2
  rw [← hn] at h3
  exact h3

/-- The number of bits, the least first. -/
def ofN : List Int → Int
  | [] => 0
  | b :: r => b + 2 * ofN r

theorem ofN_snoc (l : List Int) (b : Int) : ofN (l ++ [b]) = ofN l + 2 ^ l.length * b := by
  induction l with
  | nil => simp [ofN]
  | cons x r ih =>
    simp only [List.cons_append, ofN, ih, List.length_cons, Int.pow_succ]
    rw [Int.mul_add, Int.mul_comm (2 ^ r.length) 2, Int.mul_assoc]
    omega

theorem ofN_bd (l : List Int) (h : ∀ b ∈ l, 0 ≤ b ∧ b ≤ 1) : 0 ≤ ofN l ∧ ofN l < 2 ^ l.length := by
  induction l with
  | nil => simp [ofN]
  | cons x r ih =>
    have h1 := h x (by simp)
    have h2 := ih fun b hb => h b (by simp [hb])
    simp only [ofN, List.length_cons, two_pow_succ]
    omega
theorem ofN_drop_bd (l : List Int) (h : ∀ b ∈ l, 0 ≤ b ∧ b ≤ 1) (hl : l.length ≤ 64) (k : Nat) (hk : 1 ≤ k) (hk2 : k ≤ l.length) :
    0 ≤ ofN (l.drop k) ∧ ofN (l.drop k) ≤ 9223372036854775807 := by
  have h1 := ofN_bd (l.drop k) fun b hb => h b (List.mem_of_mem_drop hb)
  have h2 := two_pow_lt (l.drop k).length (by rw [List.length_drop]; omega)
  omega
theorem ofN_drop (l : List Int) (k : Nat) (hk : k < l.length) : ofN (l.drop k) = ofN (l.drop (k + 1)) * 2 + l[k]?.getD 0 := by
  rw [List.drop_eq_getElem_cons hk, List.getElem?_eq_getElem hk]
  simp only [ofN, Option.getD_some]
  omega
theorem getD_bit (l : List Int) (h : ∀ b ∈ l, 0 ≤ b ∧ b ≤ 1) (k : Nat) : 0 ≤ l[k]?.getD 0 ∧ l[k]?.getD 0 ≤ 1 := by
  by_cases hk : k < l.length
  · rw [List.getElem?_eq_getElem hk]; exact h _ (List.getElem_mem hk)
  · rw [List.getElem?_eq_none (by omega)]; simp

/-- A number's bits, as many as are told. -/
def bitsL (n : Int) (k : Nat) : List Int := (List.range k).map fun i => n / 2 ^ i % 2

theorem bitsL_succ (n : Int) (k : Nat) : bitsL n (k + 1) = bitsL n k ++ [n / 2 ^ k % 2] := by
  simp [bitsL, List.range_succ]
theorem bitsL_length (n : Int) (k : Nat) : (bitsL n k).length = k := by simp [bitsL]

theorem ofN_bitsL (n : Int) (k : Nat) : ofN (bitsL n k) = n % 2 ^ k := by
  induction k with
  | zero => simp [bitsL, ofN]
  | succ k ih =>
    rw [bitsL_succ, ofN_snoc, ih, bitsL_length, two_pow_succ, emod_mul_two n (2 ^ k) (two_pow_pos k)]

theorem bitsL_bits (n : Int) (k : Nat) : ∀ b ∈ bitsL n k, 0 ≤ b ∧ b ≤ 1 := by
  intro b hb
  simp only [bitsL, List.mem_map] at hb
  obtain ⟨i, _, rfl⟩ := hb
  omega
theorem wrap64_mod (n : Int) : wrap64 (n % 18446744073709551616) = wrap64 n := by unfold wrap64; omega
theorem emod_pow_U (n : Int) (k : Nat) (h : k ≤ 64) : n % 18446744073709551616 % 2 ^ k = n % 2 ^ k := by
  apply Int.emod_emod_of_dvd
  exact ⟨2 ^ (64 - k), (two_pow_split k h).symm⟩

/-- The low k bits. -/
def lowI (n : Int) (k : Nat) : Int := wrap64 (n % 2 ^ k)
/-- The low k bits, with a sign. -/
def sgnI (n : Int) (k : Nat) : Int := if 2 ^ k ≤ 2 * (n % 2 ^ k) then n % 2 ^ k - 2 ^ k else n % 2 ^ k

theorem mask_eq (k : Nat) (h : k ≤ 64) : IntKind.u64.wrap (IntKind.u64.wrap (2 ^ k) - 1) = ((2 ^ k - 1 : Nat) : Int) := by
  have hp : 0 < 2 ^ k := Nat.two_pow_pos k
  have e : (((2 ^ k - 1 : Nat) : Int)) = 2 ^ k - 1 := by rw [Int.natCast_sub hp]; simp
  rw [e, IntKind.wrap_u64, IntKind.wrap_u64]
  have h1 := two_pow_le k h
  have h2 := two_pow_pos k
  omega

theorem low_math (n : Int) (k : Nat) (h : k ≤ 64) :
    wrap64 (bits .and .u64 (IntKind.u64.wrap n) (IntKind.u64.wrap (IntKind.u64.wrap (2 ^ k) - 1))) = lowI n k := by
  have h0 : 0 ≤ n % 18446744073709551616 := Int.emod_nonneg _ (by decide)
  have h1 : n % 18446744073709551616 < 18446744073709551616 := Int.emod_lt_of_pos _ (by decide)
  rw [mask_eq k h, IntKind.wrap_u64, lowI, ← emod_pow_U n k h]
  obtain ⟨A, hA⟩ := Int.eq_ofNat_of_zero_le h0
  rw [hA] at h1 ⊢
  have hk : 2 ^ k - 1 < 18446744073709551616 := by
    have hp : 0 < 2 ^ k := Nat.two_pow_pos k
    have h1 : 2 ^ k ≤ 2 ^ 64 := Nat.pow_le_pow_right (by decide) h
    omega
  rw [bits_and_u64_nat A _ (by omega) hk, Nat.and_two_pow_sub_one_eq_mod]
  simp

theorem sgn_bounds (n : Int) (k : Nat) : 0 ≤ n % 2 ^ k ∧ n % 2 ^ k < 2 ^ k :=
  ⟨Int.emod_nonneg _ (Int.ne_of_gt (two_pow_pos k)), Int.emod_lt_of_pos _ (two_pow_pos k)⟩

theorem signed_math (n : Int) (k : Nat) (h : k ≤ 64) :
    wrap64 (IntKind.u64.wrap (IntKind.u64.wrap n * 2 ^ (64 - k))) / 2 ^ (64 - k) = sgnI n k := by
  rw [IntKind.wrap_u64, IntKind.wrap_u64, wrap64_mod]
  have hs := two_pow_split k h
  have hd := two_pow_pos (64 - k)
  have hm := two_pow_pos k
  obtain ⟨r0, r1⟩ := sgn_bounds n k
  have e1 : wrap64 (n % 18446744073709551616 * 2 ^ (64 - k)) = wrap64 (n % 2 ^ k * 2 ^ (64 - k)) := by
    rw [← wrap64_mod (n % 18446744073709551616 * 2 ^ (64 - k))]
    have e2 : n % 18446744073709551616 * 2 ^ (64 - k) % 18446744073709551616 = n % 2 ^ k * 2 ^ (64 - k) := by
      have := Int.mul_emod_mul_of_pos (n % 18446744073709551616) (2 ^ k) hd
      rw [Int.mul_comm (2 ^ (64 - k)) (2 ^ k), hs, emod_pow_U n k h] at this
      rw [Int.mul_comm, this, Int.mul_comm]
    rw [e2]
  rw [e1]
  have hle : n % 2 ^ k * 2 ^ (64 - k) ≤ (2 ^ k - 1) * 2 ^ (64 - k) := Int.mul_le_mul_of_nonneg_right (by omega) (Int.le_of_lt hd)
  have hge : 0 ≤ n % 2 ^ k * 2 ^ (64 - k) := Int.mul_nonneg r0 (Int.le_of_lt hd)
  rw [Int.sub_mul, hs] at hle
  unfold sgnI
  by_cases hc : (2 : Int) ^ k ≤ 2 * (n % 2 ^ k)
  · rw [if_pos hc]
    have h5 : 2 ^ k * 2 ^ (64 - k) ≤ 2 * (n % 2 ^ k) * 2 ^ (64 - k) := Int.mul_le_mul_of_nonneg_right hc (Int.le_of_lt hd)
    rw [hs, Int.mul_assoc] at h5
    have e3 : wrap64 (n % 2 ^ k * 2 ^ (64 - k)) = (n % 2 ^ k - 2 ^ k) * 2 ^ (64 - k) := by
      rw [Int.sub_mul, hs]; unfold wrap64; omega
    rw [e3, Int.mul_ediv_cancel _ (Int.ne_of_gt hd)]
  · rw [if_neg hc]
    have h5 : 2 * (n % 2 ^ k) * 2 ^ (64 - k) ≤ (2 ^ k - 1) * 2 ^ (64 - k) := Int.mul_le_mul_of_nonneg_right (by omega) (Int.le_of_lt hd)
    rw [Int.sub_mul, hs, Int.mul_assoc] at h5
    have e3 : wrap64 (n % 2 ^ k * 2 ^ (64 - k)) = n % 2 ^ k * 2 ^ (64 - k) := by unfold wrap64; omega
    rw [e3, Int.mul_ediv_cancel _ (Int.ne_of_gt hd)]

theorem sgn_mod (n : Int) (k : Nat) : sgnI n k % 2 ^ k = n % 2 ^ k := by
  unfold sgnI
  split
  · rw [Int.sub_emod_right, Int.emod_emod_of_dvd _ (Int.dvd_refl _)]
  · exact Int.emod_emod_of_dvd _ (Int.dvd_refl _)
theorem sgn_sgn (n : Int) (k : Nat) : sgnI (sgnI n k) k = sgnI n k := by
  have h := sgn_mod n k
  rw [show sgnI (sgnI n k) k = (if 2 ^ k ≤ 2 * (sgnI n k % 2 ^ k) then sgnI n k % 2 ^ k - 2 ^ k else sgnI n k % 2 ^ k) from rfl, h]
  rfl
theorem low_sgn (n : Int) (k : Nat) : lowI (sgnI n k) k = lowI n k := by unfold lowI; rw [sgn_mod]
theorem sgn_range (n : Int) (k : Nat) (h : k ≤ 64) : -9223372036854775808 ≤ sgnI n k ∧ sgnI n k ≤ 9223372036854775807 := by
  obtain ⟨r0, r1⟩ := sgn_bounds n k
  have := two_pow_le k h
  unfold sgnI
  split <;> omega

/-- The bits of 'Signed': those of n below k, and from there on the last one again. -/
def sbit (n : Int) (k i : Nat) : Int := if k = 0 then 0 else n / 2 ^ (min i (k - 1)) % 2
def sbitsL (n : Int) (k j : Nat) : List Int := (List.range j).map (sbit n k)
theorem sbitsL_succ (n : Int) (k j : Nat) : sbitsL n k (j + 1) = sbitsL n k j ++ [sbit n k j] := by simp [sbitsL, List.range_succ]
theorem sbitsL_length (n : Int) (k j : Nat) : (sbitsL n k j).length = j := by simp [sbitsL]

theorem sbitsL_bits (n : Int) (k j : Nat) : ∀ b ∈ sbitsL n k j, 0 ≤ b ∧ b ≤ 1 := by
  intro b hb
  simp only [sbitsL, List.mem_map] at hb
  obtain ⟨i, _, rfl⟩ := hb
  unfold sbit
  split <;> omega
theorem ofN_sbitsL_low (n : Int) (k j : Nat) (h : j ≤ k) : ofN (sbitsL n k j) = n % 2 ^ j := by
  have e : sbitsL n k j = bitsL n j := by
    unfold sbitsL bitsL
    apply List.map_congr_left
    intro i hi
    rw [List.mem_range] at hi
    unfold sbit
    rw [if_neg (by omega), show min i (k - 1) = i by omega]
  rw [e, ofN_bitsL]
theorem ofN_sbitsL_high (n : Int) (k j : Nat) : ofN (sbitsL n k (k + j)) = n % 2 ^ k + (2 ^ (k + j) - 2 ^ k) * (if k = 0 then 0 else n / 2 ^ (k - 1) % 2) := by
  induction j with
  | zero => rw [Nat.add_zero, ofN_sbitsL_low n k k (Nat.le_refl _)]; simp
  | succ j ih =>
    rw [← Nat.add_assoc, sbitsL_succ, ofN_snoc, ih, sbitsL_length, two_pow_succ]
    have e : sbit n k (k + j) = if k = 0 then 0 else n / 2 ^ (k - 1) % 2 := by
      unfold sbit
      by_cases hk : k = 0
      · rw [if_pos hk, if_pos hk]
      · rw [if_neg hk, if_neg hk, show min (k + j) (k - 1) = k - 1 by omega]
    rw [e]
    generalize (if k = 0 then (0 : Int) else n / 2 ^ (k - 1) % 2) = t
    rw [Int.sub_mul, Int.sub_mul, Int.mul_comm (2 ^ (k + j)) 2, Int.mul_assoc]
    omega

theorem top_bit (n : Int) (k : Nat) : (n / 2 ^ k % 2 = 1 ∧ 2 ^ (k + 1) ≤ 2 * (n % 2 ^ (k + 1))) ∨ (n / 2 ^ k % 2 = 0 ∧ ¬ 2 ^ (k + 1) ≤ 2 * (n % 2 ^ (k + 1))) := by
  obtain ⟨r0, r1⟩ := sgn_bounds n k
  rw [two_pow_succ, emod_mul_two n (2 ^ k) (two_pow_pos k)]
  have hb : n / 2 ^ k % 2 = 0 ∨ n / 2 ^ k % 2 = 1 := by omega
  rcases hb with hb | hb
  · right; rw [hb]; omega
  · left; rw [hb]; omega

theorem refSigned_math (n : Int) (k : Nat) (h : k ≤ 64) : wrap64 (ofN (sbitsL n k 64)) = sgnI n k := by
  have e := ofN_sbitsL_high n k (64 - k)
  rw [show k + (64 - k) = 64 by omega] at e
  rw [e]
  obtain ⟨r0, r1⟩ := sgn_bounds n k
  have hle := two_pow_le k h
  have h64 : (2 : Int) ^ 64 = 18446744073709551616 := by decide
  rw [h64]
  cases k with
  | zero => unfold sgnI wrap64; simp
  | succ k =>
    rw [if_neg (by omega), Nat.add_sub_cancel]
    unfold sgnI
    rcases top_bit n k with ⟨hb, hc⟩ | ⟨hb, hc⟩
    · rw [hb, if_pos hc]; unfold wrap64; omega
    · rw [hb, if_neg hc]; unfold wrap64; omega
theorem refLow_math (n : Int) (k : Nat) : wrap64 (ofN (bitsL n k)) = lowI n k := by rw [ofN_bitsL]; rfl

end Go.Proofs.YtfclhehpbniapaaDoor
