/- Plain arithmetic for octets: a number of octets, of bits of octets. No Go in sight. -/
import Derived.Test.YtfclhehpbniapaaDoorMath
namespace Go.Proofs.YtfclhehpbniapaaDoor
open Go.RowKit

/-- The number of octets, the least first. -/
def getN : List Int → Int
  | [] => 0
  | b :: r => b + 256 * getN r

theorem getN_snoc (l : List Int) (b : Int) : getN (l ++ [b]) = getN l + 2 ^ (8 * l.length) * b := by
  induction l with
  | nil => simp [getN]
  | cons x r ih =>
    simp only [List.cons_append, getN, ih, List.length_cons]
    have e : (2 : Int) ^ (8 * (r.length + 1)) = 256 * 2 ^ (8 * r.length) := by
      rw [show (256 : Int) = 2 ^ 8 by rfl, ← Int.pow_add, show 8 + 8 * r.length = 8 * (r.length + 1) by omega]
    rw [e, Int.mul_add, Int.mul_assoc]
    omega
theorem getN_bd (l : List Int) (h : ∀ b ∈ l, 0 ≤ b ∧ b ≤ 255) : 0 ≤ getN l ∧ getN l < 2 ^ (8 * l.length) := by
  induction l with
  | nil => simp [getN]
  | cons x r ih =>
    have h1 := h x (by simp)
    have h2 := ih fun b hb => h b (by simp [hb])
    have e : (2 : Int) ^ (8 * (r.length + 1)) = 256 * 2 ^ (8 * r.length) := by
      rw [show (256 : Int) = 2 ^ 8 by rfl, ← Int.pow_add, show 8 + 8 * r.length = 8 * (r.length + 1) by omega]
    simp only [getN, List.length_cons, e]
    omega
theorem ofN_append (a b : List Int) : ofN (a ++ b) = ofN a + 2 ^ a.length * ofN b := by
  induction a with
  | nil => simp [ofN]
  | cons x r ih =>
    simp only [List.cons_append, ofN, ih, List.length_cons, Int.pow_succ]
    rw [Int.mul_add, Int.mul_comm (2 ^ r.length) 2, Int.mul_assoc]
    omega
/-- The bits of octets, eight a piece. -/
def bitsO (l : List Int) : List Int := l.flatMap fun z => bitsL z 8
theorem bitsO_length (l : List Int) : (bitsO l).length = 8 * l.length := by
  induction l with
  | nil => rfl
  | cons x r ih =>
    simp only [bitsO, List.flatMap_cons, List.length_append, bitsL_length, List.length_cons] at ih ⊢
    omega
theorem bitsO_snoc (l : List Int) (z : Int) : bitsO (l ++ [z]) = bitsO l ++ bitsL z 8 := by simp [bitsO]
theorem bitsO_bits (l : List Int) : ∀ b ∈ bitsO l, 0 ≤ b ∧ b ≤ 1 := by
  intro b hb
  simp only [bitsO, List.mem_flatMap] at hb
  obtain ⟨z, _, hz⟩ := hb
  exact bitsL_bits z 8 b hz
theorem ofN_bitsO (l : List Int) (h : ∀ b ∈ l, 0 ≤ b ∧ b ≤ 255) : ofN (bitsO l) = getN l := by
  induction l with
  | nil => rfl
  | cons x r ih =>
    have h1 := h x (by simp)
    have h2 := ih fun b hb => h b (by simp [hb])
    show ofN (bitsL x 8 ++ bitsO r) = x + 256 * getN r
    rw [ofN_append, ofN_bitsL, bitsL_length, h2]
    have e : (2 : Int) ^ 8 = 256 := rfl
    rw [e]
    omega

theorem or_u64_add (x y : Int) (i : Nat) (hi : i ≤ 64) (hy0 : 0 ≤ y) (hy : y < 2 ^ i) (hx0 : 0 ≤ x) (hx : x % 2 ^ i = 0) (hx1 : x < 18446744073709551616) :
    bits .or .u64 y x = y + x := by
  have h64 : (2 : Int) ^ 64 = 18446744073709551616 := by decide
  have hle := two_pow_le i hi
  have e := bits_join .u64 64 (by decide) (fun n a b => by rw [h64] at b; rw [IntKind.wrap_u64]; omega) i x y hx0 hx (by rw [h64]; exact hx1) hy0 hy (by rw [h64]; omega)
  have c : bits .or .u64 y x = bits .or .u64 x y := by
    show IntKind.u64.wrap ((BitVec.ofInt 64 y ||| BitVec.ofInt 64 x).toNat : Int) = IntKind.u64.wrap ((BitVec.ofInt 64 x ||| BitVec.ofInt 64 y).toNat : Int)
    rw [BitVec.or_comm]
  rw [c, e]
  omega

/-- One step of 'Get': the octet z behind what is there. -/
theorem get_step (l : List Int) (z : Int) (hl : l.length < 8) (h : ∀ b ∈ l, 0 ≤ b ∧ b ≤ 255) (hz0 : 0 ≤ z) (hz1 : z ≤ 255) :
    bits .or .u64 (getN l) (IntKind.u64.wrap (z * 2 ^ (8 * l.length))) = getN (l ++ [z]) := by
  have hb := getN_bd l h
  have hs := two_pow_split (8 * l.length) (by omega)
  have hp := two_pow_pos (8 * l.length)
  have hq : (256 : Int) ≤ 2 ^ (64 - 8 * l.length) := by
    have e : (2 : Int) ^ (64 - 8 * l.length) = 256 * 2 ^ (56 - 8 * l.length) := by
      rw [show (256 : Int) = 2 ^ 8 by rfl, ← Int.pow_add, show 8 + (56 - 8 * l.length) = 64 - 8 * l.length by omega]
    have := two_pow_pos (56 - 8 * l.length)
    omega
  have h1 : z * 2 ^ (8 * l.length) ≤ 255 * 2 ^ (8 * l.length) := Int.mul_le_mul_of_nonneg_right hz1 (Int.le_of_lt hp)
  have h2 : (2 : Int) ^ (8 * l.length) * 256 ≤ 2 ^ (8 * l.length) * 2 ^ (64 - 8 * l.length) := Int.mul_le_mul_of_nonneg_left hq (Int.le_of_lt hp)
  have h0 : 0 ≤ z * 2 ^ (8 * l.length) := Int.mul_nonneg hz0 (Int.le_of_lt hp)
  have e : IntKind.u64.wrap (z * 2 ^ (8 * l.length)) = z * 2 ^ (8 * l.length) := by rw [IntKind.wrap_u64]; omega
  rw [e, or_u64_add _ _ (8 * l.length) (by omega) hb.1 hb.2 h0 (Int.mul_emod_left _ _) (by omega), getN_snoc, Int.mul_comm z]

theorem bits_down (n : Int) (a m : Nat) : n / 2 ^ (a + 1) % 2 ^ m * 2 + n / 2 ^ a % 2 = n / 2 ^ a % 2 ^ (m + 1) := by
  rw [two_pow_succ a, ← Int.ediv_ediv_of_nonneg (Int.le_of_lt (two_pow_pos a))]
  generalize n / 2 ^ a = q
  have e := Int.mul_emod_mul_of_pos (q / 2) (2 ^ m) (show (0 : Int) < 2 by decide)
  have hq : q = 2 * (q / 2) + q % 2 := by omega
  have hp := two_pow_pos m
  have hr : 0 ≤ q / 2 % 2 ^ m ∧ q / 2 % 2 ^ m < 2 ^ m := sgn_bounds _ m
  have e2 : q / 2 = 2 ^ m * (q / 2 / 2 ^ m) + q / 2 % 2 ^ m := (Int.mul_ediv_add_emod _ _).symm
  have h3 : q = (q / 2 % 2 ^ m * 2 + q % 2) + 2 ^ (m + 1) * (q / 2 / 2 ^ m) := by
    rw [two_pow_succ, Int.mul_assoc, Int.mul_comm 2, ← Int.mul_assoc]
    omega
  have h4 : ((q / 2 % 2 ^ m * 2 + q % 2) + 2 ^ (m + 1) * (q / 2 / 2 ^ m)) % 2 ^ (m + 1) = q / 2 % 2 ^ m * 2 + q % 2 := by
    rw [Int.add_mul_emod_self_left]
    exact Int.emod_eq_of_lt (by omega) (by rw [two_pow_succ]; omega)
  rw [← h3] at h4
  exact h4.symm
end Go.Proofs.YtfclhehpbniapaaDoor
