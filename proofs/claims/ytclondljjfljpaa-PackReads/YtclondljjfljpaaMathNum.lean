/- Plain arithmetic for layer 1 (ints): zigzag, turning 32 bits, the greatest bit. No Go in sight. -/
import Derived.Test.YtclondljjfljpaaMath
namespace Go.Proofs.Ytclondljjfljpaa
open Go.RowKit

def zigI (n : Int) : Int := if 0 ≤ n then 2 * n else -2 * n - 1
def zagI (u : Int) : Int := if u % 2 = 0 then u / 2 else -(u / 2) - 1

theorem zag_zig (n : Int) : zagI (zigI n) = n := by unfold zagI zigI; split <;> split <;> omega
theorem zig_zag (u : Int) (h : 0 ≤ u) : zigI (zagI u) = u := by unfold zagI zigI; split <;> split <;> omega
theorem zig_bd (n : Int) (h1 : -9223372036854775808 ≤ n) (h2 : n ≤ 9223372036854775807) : 0 ≤ zigI n ∧ zigI n ≤ 18446744073709551615 := by
  unfold zigI; split <;> omega
theorem zag_bd (u : Int) (h1 : 0 ≤ u) (h2 : u ≤ 18446744073709551615) : -9223372036854775808 ≤ zagI u ∧ zagI u ≤ 9223372036854775807 := by
  unfold zagI; split <;> omega
theorem zig_lt (n m : Int) (h1 : 0 ≤ n) (h2 : 0 ≤ m) : (decide (n < m) == decide (zigI n < zigI m)) = true := by
  unfold zigI; rw [if_pos h1, if_pos h2]; simp

theorem xor_u64_zero (a : Int) (h0 : 0 ≤ a) (h1 : a ≤ 18446744073709551615) : bits .xor .u64 a 0 = a := by
  obtain ⟨A, rfl⟩ := Int.eq_ofNat_of_zero_le h0
  have := bits_xor_u64_nat A 0 (by omega) (by omega)
  simpa using this
theorem xor_u64_ones (a : Int) (h0 : 0 ≤ a) (h1 : a ≤ 18446744073709551615) : bits .xor .u64 a 18446744073709551615 = 18446744073709551615 - a := by
  obtain ⟨A, rfl⟩ := Int.eq_ofNat_of_zero_le h0
  have e1 : (BitVec.ofInt 64 (A : Int)).toNat = A := by
    rw [BitVec.ofInt_natCast, BitVec.toNat_ofNat]; exact Nat.mod_eq_of_lt (by omega)
  have e2 : BitVec.ofInt 64 18446744073709551615 = BitVec.allOnes 64 := by decide
  show IntKind.u64.wrap ((BitVec.ofInt 64 (A : Int) ^^^ BitVec.ofInt 64 18446744073709551615).toNat : Int) = _
  rw [e2, BitVec.xor_allOnes, BitVec.toNat_not, e1, IntKind.wrap_u64]
  omega
theorem ofInt64 (a : Int) : ((BitVec.ofInt 64 a).toNat : Int) = a % 18446744073709551616 := by
  rw [BitVec.toNat_ofInt]
  have h0 : 0 ≤ a % 18446744073709551616 := Int.emod_nonneg _ (by decide)
  show ((a % ((2 ^ 64 : Nat) : Int)).toNat : Int) = _
  have : ((2 ^ 64 : Nat) : Int) = 18446744073709551616 := by decide
  rw [this]
  omega
theorem xor_i64_zero (a : Int) (h0 : -9223372036854775808 ≤ a) (h1 : a ≤ 9223372036854775807) : bits .xor .i64 a 0 = a := by
  show IntKind.i64.wrap ((BitVec.ofInt 64 a ^^^ BitVec.ofInt 64 0).toNat : Int) = _
  have e2 : BitVec.ofInt 64 0 = 0#64 := by decide
  rw [e2, BitVec.xor_zero, ofInt64, IntKind.wrap_i64]
  omega
theorem xor_i64_ones (a : Int) (h0 : -9223372036854775808 ≤ a) (h1 : a ≤ 9223372036854775807) : bits .xor .i64 a (-1) = -a - 1 := by
  show IntKind.i64.wrap ((BitVec.ofInt 64 a ^^^ BitVec.ofInt 64 (-1)).toNat : Int) = _
  have e2 : BitVec.ofInt 64 (-1) = BitVec.allOnes 64 := by decide
  have e3 := ofInt64 a
  have e4 := (BitVec.ofInt 64 a).isLt
  rw [e2, BitVec.xor_allOnes, BitVec.toNat_not, IntKind.wrap_i64]
  omega

theorem zig_math (n : Int) (h1 : -9223372036854775808 ≤ n) (h2 : n ≤ 9223372036854775807) :
    bits .xor .u64 (IntKind.u64.wrap (IntKind.u64.wrap n * 2)) (IntKind.u64.wrap (n / 9223372036854775808)) = zigI n := by
  rw [IntKind.wrap_u64, IntKind.wrap_u64, IntKind.wrap_u64]
  unfold zigI
  split
  · have e : n / 9223372036854775808 % 18446744073709551616 = 0 := by omega
    rw [e, xor_u64_zero _ (by omega) (by omega)]
    omega
  · have e : n / 9223372036854775808 % 18446744073709551616 = 18446744073709551615 := by omega
    rw [e, xor_u64_ones _ (by omega) (by omega)]
    omega

theorem and_one (u : Int) (h0 : 0 ≤ u) (h1 : u ≤ 18446744073709551615) : bits .and .u64 u 1 = u % 2 := by
  obtain ⟨A, rfl⟩ := Int.eq_ofNat_of_zero_le h0
  have := bits_and_u64_nat A 1 (by omega) (by omega)
  have e : A &&& 1 = A % 2 := Nat.and_one_is_mod A
  rw [e] at this
  simpa using this
theorem and_31 (u : Int) (h0 : 0 ≤ u) (h1 : u ≤ 18446744073709551615) : bits .and .u64 u 31 = u % 32 := by
  obtain ⟨A, rfl⟩ := Int.eq_ofNat_of_zero_le h0
  have := bits_and_u64_nat A 31 (by omega) (by omega)
  have e : A &&& 31 = A % 32 := Nat.and_two_pow_sub_one_eq_mod A 5
  rw [e] at this
  simpa using this

/-! ### turning -/
def turnI (u : Int) (l : Nat) : Int := u * 2 ^ l % 4294967296 + u / 2 ^ (32 - l)
def rot1 (x : Int) : Int := x * 2 % 4294967296 + x * 2 / 4294967296
def rotN : Nat → Int → Int
  | 0, u => u
  | k + 1, u => rot1 (rotN k u)

theorem rot1_bd (x : Int) (h0 : 0 ≤ x) (h1 : x ≤ 4294967295) : 0 ≤ rot1 x ∧ rot1 x ≤ 4294967295 := by unfold rot1; omega
theorem rotN_bd (k : Nat) (u : Int) (h0 : 0 ≤ u) (h1 : u ≤ 4294967295) : 0 ≤ rotN k u ∧ rotN k u ≤ 4294967295 := by
  induction k with
  | zero => exact ⟨h0, h1⟩
  | succ k ih => exact rot1_bd _ ih.1 ih.2
theorem rotN_add (i j : Nat) (u : Int) : rotN i (rotN j u) = rotN (i + j) u := by
  induction i with
  | zero => rw [Nat.zero_add]; rfl
  | succ i ih => rw [Nat.succ_add]; show rot1 _ = rot1 _; rw [ih]

theorem turnI_succ (u : Int) (k : Nat) (hk : k < 32) (h0 : 0 ≤ u) (h1 : u ≤ 4294967295) : turnI u (k + 1) = rot1 (turnI u k) := by
  have hmd : (2 : Int) ^ k * 2 ^ (31 - k) = 2147483648 := by
    rw [← Int.pow_add, show k + (31 - k) = 31 by omega]; rfl
  have hm := two_pow_pos k
  have hd := two_pow_pos (31 - k)
  have e3 : (2 : Int) ^ (32 - k) = 2 ^ (31 - k) * 2 := by rw [← two_pow_succ, show 31 - k + 1 = 32 - k by omega]
  have e4 : 32 - (k + 1) = 31 - k := by omega
  unfold turnI
  rw [e4, e3, two_pow_succ]
  generalize (2 : Int) ^ k = m at *
  generalize (2 : Int) ^ (31 - k) = d at *
  have b0 := Int.emod_nonneg u (Int.ne_of_gt hd)
  have b1 := Int.emod_lt_of_pos u hd
  have a1 : u * (m * 2) % 4294967296 = 2 * (m * (u % d)) := by
    have h := Int.mul_emod_mul_of_pos u d (show 0 < m * 2 by omega)
    rw [show m * 2 * d = 4294967296 by rw [Int.mul_assoc, Int.mul_comm 2 d, ← Int.mul_assoc, hmd]; rfl] at h
    rw [Int.mul_comm u, h, Int.mul_comm m 2, Int.mul_assoc]
  have a2 : u * m % 4294967296 = m * (u % d) + 2147483648 * (u / d % 2) := by
    have h := Int.mul_emod_mul_of_pos u (d * 2) hm
    rw [← Int.mul_assoc, hmd, emod_mul_two u d hd, Int.mul_add, ← Int.mul_assoc, hmd] at h
    rw [Int.mul_comm u]; exact h
  have a3 : u / (d * 2) = u / d / 2 := by rw [Int.ediv_ediv_of_nonneg (Int.le_of_lt hd)]
  have a4 : u / (d * 2) < m := by
    apply Int.ediv_lt_of_lt_mul (by omega)
    rw [← Int.mul_assoc, hmd]; omega
  have a5 : m * (u % d) ≤ m * (d - 1) := Int.mul_le_mul_of_nonneg_left (by omega) (Int.le_of_lt hm)
  have a6 : 0 ≤ m * (u % d) := Int.mul_nonneg (Int.le_of_lt hm) b0
  have a7 : 0 ≤ u / d := Int.ediv_nonneg h0 (Int.le_of_lt hd)
  rw [Int.mul_sub, hmd] at a5
  rw [a3] at a4 ⊢
  rw [a1, a2]
  unfold rot1
  generalize m * (u % d) = P at *
  generalize u / d = q at *
  omega
theorem turnI_rotN (u : Int) (k : Nat) (hk : k ≤ 32) (h0 : 0 ≤ u) (h1 : u ≤ 4294967295) : turnI u k = rotN k u := by
  induction k with
  | zero => unfold turnI rotN; simp; omega
  | succ k ih => rw [turnI_succ u k (by omega) h0 h1, ih (by omega)]; rfl
theorem rotN_32 (u : Int) (h0 : 0 ≤ u) (h1 : u ≤ 4294967295) : rotN 32 u = u := by
  rw [← turnI_rotN u 32 (by omega) h0 h1]; unfold turnI; simp
theorem rotN_mod (u : Int) (k : Nat) (hk : k < 64) (h0 : 0 ≤ u) (h1 : u ≤ 4294967295) : rotN k u = rotN (k % 32) u := by
  by_cases h : k < 32
  · rw [Nat.mod_eq_of_lt h]
  · have e : k = (k % 32) + 32 := by omega
    rw [e, ← rotN_add, rotN_32 u h0 h1]
    congr 1; omega

theorem or_u32 (u : Int) (l : Nat) (hl : l < 32) (h0 : 0 ≤ u) (h1 : u ≤ 4294967295) :
    bits .or .u32 (IntKind.u32.wrap (u * 2 ^ l)) (u / 2 ^ (32 - l)) = turnI u l := by
  rw [IntKind.wrap_u32]
  unfold turnI
  have hs : (2 : Int) ^ l * 2 ^ (32 - l) = 4294967296 := by
    rw [← Int.pow_add, show l + (32 - l) = 32 by omega]; rfl
  have hp := two_pow_pos l
  have hq := two_pow_pos (32 - l)
  have e1 : u * 2 ^ l % 4294967296 = 2 ^ l * (u % 2 ^ (32 - l)) := by
    rw [← hs, Int.mul_comm u, Int.mul_emod_mul_of_pos _ _ hp]
  have hd : u / 2 ^ (32 - l) < 2 ^ l := by
    apply Int.ediv_lt_of_lt_mul hq
    rw [hs]; omega
  have hd0 : 0 ≤ u / 2 ^ (32 - l) := Int.ediv_nonneg h0 (Int.le_of_lt hq)
  have hl2 : (2 : Int) ^ l ≤ 4294967296 := by
    have h3 : (1 : Int) ≤ 2 ^ (32 - l) := hq
    have := Int.mul_le_mul_of_nonneg_left h3 (Int.le_of_lt hp)
    omega
  have e32 : (2 : Int) ^ 32 = 4294967296 := by decide
  refine bits_join .u32 32 (by decide) ?_ l _ _ ?_ ?_ ?_ hd0 hd ?_
  · intro n a b; rw [e32] at b; rw [IntKind.wrap_u32]; omega
  · exact Int.emod_nonneg _ (by decide)
  · rw [e1]; exact Int.mul_emod_right _ _
  · rw [e32]; exact Int.emod_lt_of_pos _ (by decide)
  · rw [e32]; omega

/-- Turned to the left by so many places, or to the right. -/
def turnBy (u b : Int) : Int := rotN (b % 32).toNat u
theorem turnBy_bd (u b : Int) (h0 : 0 ≤ u) (h1 : u ≤ 4294967295) : 0 ≤ turnBy u b ∧ turnBy u b ≤ 4294967295 := rotN_bd _ u h0 h1
theorem turnBy_turnBy (u a b : Int) (h0 : 0 ≤ u) (h1 : u ≤ 4294967295) : turnBy (turnBy u a) b = turnBy u (a + b) := by
  unfold turnBy
  rw [rotN_add, rotN_mod u _ (by omega) h0 h1]
  congr 1; omega
theorem turnBy_back (u a : Int) (h0 : 0 ≤ u) (h1 : u ≤ 4294967295) : turnBy (turnBy u a) (-a) = u := by
  rw [turnBy_turnBy u a (-a) h0 h1, Int.add_right_neg]; rfl

/-! ### the greatest bit -/
def lgI (v : Int) : Int := if v ≤ 0 then -1 else (Nat.log2 v.toNat : Int)
theorem lgI_step (v : Int) (h : 0 < v) : lgI v = lgI (v / 2) + 1 := by
  obtain ⟨V, rfl⟩ := Int.eq_ofNat_of_zero_le (Int.le_of_lt h)
  unfold lgI
  rw [if_neg (by omega)]
  have e : ((V : Int) / 2).toNat = V / 2 := by omega
  rw [e, Int.toNat_natCast, Nat.log2_def]
  by_cases h2 : 2 ≤ V
  · rw [if_pos h2, if_neg (by omega)]; omega
  · rw [if_neg h2, if_pos (by omega)]; omega
theorem lgI_zero (v : Int) (h : v ≤ 0) : lgI v = -1 := by unfold lgI; rw [if_pos h]
theorem lgI_bd (v : Int) (h : v ≤ 18446744073709551615) : -1 ≤ lgI v ∧ lgI v ≤ 63 := by
  unfold lgI
  split
  · omega
  · have h1 : v.toNat < 2 ^ 64 := by omega
    have h2 : v.toNat ≠ 0 := by omega
    have := (Nat.log2_lt h2).2 h1
    omega
end Go.Proofs.Ytclondljjfljpaa
