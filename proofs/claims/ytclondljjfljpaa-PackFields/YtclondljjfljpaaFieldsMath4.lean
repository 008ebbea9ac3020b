/- What was written is read again, field by field: no Go in sight. -/
import Derived.Test.YtclondljjfljpaaFields4
namespace Go.Proofs.Ytclondljjfljpaa
open Go.RowKit
set_option linter.unusedVariables false

theorem getN_octL4 (n : Int) (k : Nat) : getN (octL n k) = n % 2 ^ (8 * k) := by
  induction k with
  | zero => simp [octL, getN]
  | succ k ih =>
    rw [octL_succ, getN_snoc, ih, octL_length]
    unfold octet
    have hp := two_pow_pos (8 * k)
    have e : (2 : Int) ^ (8 * (k + 1)) = 2 ^ (8 * k) * 256 := by
      rw [show (256 : Int) = 2 ^ 8 by rfl, ← Int.pow_add, show 8 * k + 8 = 8 * (k + 1) by omega]
    rw [e]
    generalize (2 : Int) ^ (8 * k) = m at *
    have e1 := Int.mul_ediv_add_emod n m
    have r0 := Int.emod_nonneg n (Int.ne_of_gt hp)
    have r1 := Int.emod_lt_of_pos n hp
    have q := Int.mul_ediv_add_emod (n / m) 256
    have hn : n = (n % m + m * (n / m % 256)) + m * 256 * (n / m / 256) := by
      have : m * (n / m) = m * (256 * (n / m / 256) + n / m % 256) := by rw [q]
      rw [Int.mul_add, ← Int.mul_assoc] at this
      omega
    have b0 : 0 ≤ n / m % 256 ∧ n / m % 256 ≤ 255 := by omega
    have h5 : m * (n / m % 256) ≤ m * 255 := Int.mul_le_mul_of_nonneg_left b0.2 (Int.le_of_lt hp)
    have h6 : 0 ≤ m * (n / m % 256) := Int.mul_nonneg (Int.le_of_lt hp) b0.1
    have h3 : (n % m + m * (n / m % 256) + m * 256 * (n / m / 256)) % (m * 256) = n % m + m * (n / m % 256) := by
      rw [Int.add_mul_emod_self_left]
      exact Int.emod_eq_of_lt (by omega) (by omega)
    rw [← hn] at h3
    exact h3.symm
theorem getI_octL4 (n : Int) (k : Nat) (hk : k ≤ 8) : getI (octL n k) = lowI n (8 * k) := by
  unfold getI lowI
  rw [List.take_of_length_le (by rw [octL_length]; omega), getN_octL4]

theorem octZ_ints (n : Int) (k : Nat) : (octZ n k).map Int.ofNat = octL n k := by
  unfold octZ octL
  rw [List.map_map, List.map_map]
  apply List.map_congr_left
  intro i _
  have := octet_bd n i
  simp only [Function.comp, Int.ofNat_eq_natCast]
  omega
theorem getO_octZ (n : Int) (k : Nat) (hk : k ≤ 8) : getO (octZ n k) = lowI n (8 * k) := by
  unfold getO
  rw [octZ_ints, getI_octL4 n k hk]
theorem oct_front (a b : List Nat) : (RS.mk (a ++ b) false).oct a.length = a ∧ (RS.mk (a ++ b) false).off a.length = ⟨b, false⟩ := by
  have h : (RS.mk (a ++ b) false).can a.length = true := RS.can_iff.2 ⟨rfl, by simp⟩
  unfold RS.oct RS.off
  rw [if_pos h, if_pos h]
  simp
/-- A number. -/
theorem back_num (n size : Int) (rest : List Nat) : getO ((RS.mk (octZ n (cl size 8) ++ rest) false).oct (cl size 8)) = lowI n (8 * cl size 8) ∧ (RS.mk (octZ n (cl size 8) ++ rest) false).off (cl size 8) = ⟨rest, false⟩ := by
  have h := oct_front (octZ n (cl size 8)) rest
  rw [octZ_length] at h
  rw [h.1, h.2, getO_octZ _ _ (cl_le size 8)]
  exact ⟨rfl, rfl⟩
/-- A zigzag. -/
theorem back_zig (n : Int) (h1 : -9223372036854775808 ≤ n) (h2 : n ≤ 9223372036854775807) (rest : List Nat) : (RS.mk (varN (zigI n).toNat ++ rest) false).zig = n ∧ (RS.mk (varN (zigI n).toNat ++ rest) false).offZig = ⟨rest, false⟩ := by
  have hb := zig_bd n h1 h2
  have hz : (RS.mk (varN (zigI n).toNat ++ rest) false).zigs = some (varN (zigI n).toNat).length := zigN_varN (by omega) rest
  unfold RS.zig RS.offZig
  rw [hz]
  refine ⟨?_, by simp⟩
  simp only [List.take_left']
  rw [decN_varN, show (((zigI n).toNat : Nat) : Int) = zigI n by omega, zag_zig]
/-- A text. -/
theorem getL_two (k : Nat) (h : k < 65536) : getL (octZ k 2) = k := by
  have e : octZ k 2 = [k % 256, k / 256] := by
    simp only [octZ, octL, List.range_succ, List.range_zero, List.nil_append, List.map_cons, List.map_nil, List.cons_append, octet]
    simp
    omega
  rw [e]
  simp only [getL]
  omega
theorem back_text (s : ByteArray) (hs : s.size ≤ 65535) (rest : List Nat) : strN (RS.mk (octZ s.size 2 ++ octsOf s ++ rest) false).text = s ∧ (RS.mk (octZ s.size 2 ++ octsOf s ++ rest) false).offText = ⟨rest, false⟩ := by
  have h := oct_front (octZ s.size 2) (octsOf s ++ rest)
  rw [octZ_length, ← List.append_assoc] at h
  have h2 := oct_front (octsOf s) rest
  rw [octsOf_length] at h2
  unfold RS.text RS.offText
  rw [h.1, h.2, getL_two _ (by omega), h2.1, h2.2, strN_octsOf]
  exact ⟨rfl, rfl⟩
theorem encs_cons (f : Fld) (r : List Fld) : encs (f :: r) = enc f ++ encs r := by simp [encs]
theorem encs_drop (fs : List Fld) (k : Nat) (f : Fld) (h : fs[k]? = some f) : encs (fs.drop k) = enc f ++ encs (fs.drop (k + 1)) := by
  obtain ⟨hk, rfl⟩ := List.getElem?_eq_some_iff.1 h
  rw [List.drop_eq_getElem_cons hk, encs_cons]
/-- 'max(0, min(size, 8))' of eight bits a piece. -/
theorem cl_bits (size x : Int) (h : x = 8 * (cl size 8 : Int)) : cl x 64 = 8 * cl size 8 := by
  have := cl_le size 8
  rw [h]
  unfold cl at *
  omega
end Go.Proofs.Ytclondljjfljpaa
