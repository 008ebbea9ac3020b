/- Contract of 'Lay': a number in octets, in new memory. -/
import Derived.Test.YtfclhehpbniapaaDoorWalkSmall
import Derived.Test.YtfclhehpbniapaaDoorTools
namespace Go.Proofs.YtfclhehpbniapaaDoor
open Go.RowKit
set_option linter.unusedVariables false

theorem Tryd.infoU8' : (Tryd.prog.info? 5).map (fun i => (i.zero, i.size, i.bytes)) = some (some (.int .u8 0), 1, 1) := by kernel_rfl

/-- The i-th octet of a number. -/
def octet (n : Int) (i : Nat) : Int := n / 2 ^ (8 * i) % 256
def octL (n : Int) (k : Nat) : List Int := (List.range k).map (octet n)
def layA (n : Int) (k i : Nat) : Array Value := ((List.range k).map fun j => Value.int .u8 (if j < i then octet n j else 0)).toArray
theorem layA_zero (n : Int) (k : Nat) : madeCells (#[Value.int .u8 0]) k = layA n k 0 := by
  apply Array.ext_getElem?
  intro j
  simp only [madeCells, layA, Array.getElem?_map, List.getElem?_toArray, List.getElem?_map]
  by_cases hj : j < k
  · simp [hj, Nat.mod_one]
  · simp [hj]
theorem layA_succ (n : Int) (k i : Nat) (h : i < k) : (layA n k i).setIfInBounds i (.int .u8 (octet n i)) = layA n k (i + 1) := by
  apply Array.ext_getElem?
  intro j
  simp only [layA, Array.getElem?_setIfInBounds, List.getElem?_toArray, List.getElem?_map, List.size_toArray, List.length_map, List.length_range]
  by_cases hj : i = j
  · subst hj; simp [h]
  · rw [if_neg hj]
    by_cases hjk : j < k
    · simp [hjk]
      by_cases h2 : j < i
      · rw [if_pos h2, if_pos (by omega)]
      · rw [if_neg h2, if_neg (by omega)]
    · simp [hjk]
theorem layA_get (n : Int) (k i j : Nat) (h : j < k) : (layA n k i)[j]? = some (.int .u8 (if j < i then octet n j else 0)) := by
  simp [layA, h]
theorem layA_full (n : Int) (k : Nat) : layA n k k = ((octL n k).map (Value.int .u8)).toArray := by
  unfold layA octL
  congr 1
  rw [List.map_map]
  apply List.map_congr_left
  intro j hj
  rw [List.mem_range] at hj
  rw [if_pos hj]; rfl
theorem octet_math (n : Int) (i : Nat) (h : i < 8) : IntKind.u8.wrap (IntKind.u64.wrap n / 2 ^ (8 * i)) = octet n i := by
  rw [IntKind.wrap_u8, IntKind.wrap_u64]
  unfold octet
  have hs := two_pow_split (8 * i) (by omega)
  have e : (2 : Int) ^ (64 - 8 * i) = 256 * 2 ^ (64 - 8 * i - 8) := by
    rw [show (256 : Int) = 2 ^ 8 by rfl, ← Int.pow_add, show 8 + (64 - 8 * i - 8) = 64 - 8 * i by omega]
  have hp := two_pow_pos (8 * i)
  rw [← hs, e]
  generalize (2 : Int) ^ (8 * i) = m at *
  generalize (2 : Int) ^ (64 - 8 * i - 8) = d at *
  have h1 : n % (m * (256 * d)) / m = n / m % (256 * d) := by
    have e1 := Int.mul_ediv_add_emod n m
    have r0 := Int.emod_nonneg n (Int.ne_of_gt hp)
    have r1 := Int.emod_lt_of_pos n hp
    have hq : n % (m * (256 * d)) = m * (n / m % (256 * d)) + n % m := by
      have q := Int.mul_ediv_add_emod (n / m) (256 * d)
      have hn : n = (m * (n / m % (256 * d)) + n % m) + m * (256 * d) * (n / m / (256 * d)) := by
        have : m * (n / m) = m * (256 * d * (n / m / (256 * d)) + n / m % (256 * d)) := by rw [q]
        rw [Int.mul_add, ← Int.mul_assoc] at this
        omega
      have hd : 0 < 256 * d := by
        by_cases hd : 0 < 256 * d
        · exact hd
        · exfalso
          have := Int.mul_le_mul_of_nonneg_left (show 256 * d ≤ 0 by omega) (Int.le_of_lt hp)
          rw [e] at hs
          omega
      have b0 := Int.emod_nonneg (n / m) (Int.ne_of_gt hd)
      have b1 := Int.emod_lt_of_pos (n / m) hd
      have hlt : m * (n / m % (256 * d)) + n % m < m * (256 * d) := by
        have := Int.mul_le_mul_of_nonneg_left (show n / m % (256 * d) ≤ 256 * d - 1 by omega) (Int.le_of_lt hp)
        rw [Int.mul_sub] at this
        omega
      have h0 : 0 ≤ m * (n / m % (256 * d)) + n % m := Int.add_nonneg (Int.mul_nonneg (Int.le_of_lt hp) b0) r0
      have h3 : (m * (n / m % (256 * d)) + n % m + m * (256 * d) * (n / m / (256 * d))) % (m * (256 * d)) = m * (n / m % (256 * d)) + n % m := by
        rw [Int.add_mul_emod_self_left]
        exact Int.emod_eq_of_lt h0 hlt
      rw [← hn] at h3
      exact h3
    rw [hq, Int.mul_add_ediv_left _ _ (Int.ne_of_gt hp), Int.ediv_eq_zero_of_lt r0 r1, Int.add_zero]
  rw [h1]
  exact Int.emod_emod_of_dvd _ ⟨d, rfl⟩

set_option maxHeartbeats 400000 in
theorem lay_any (n m : Int) (w : World) :
    Calls Tryd.prog 24 #[.int .i64 n, .int .i64 m] w fun e w' => e = .returned (.slice (some ⟨w.heap.size, 0, none⟩) (cl m 8) (cl m 8)) ∧ w' = w.alloc (.cells ((octL n (cl m 8)).map (Value.int .u8)).toArray 5) := by
  obtain ⟨i0, hi, hz0, hz1, hz2⟩ := info_parts Tryd.infoU8'
  have hk := cl_le m 8
  have HF : Hid (∀ k, ((octL n k).map (Value.int .u8)).toArray = layA n k k) := fun k => (layA_full n k).symm
  go_enter Tryd.func24, Tryd.ntmps24
  go_wp2_with fail
  refine (within_any m 8 _).mono ?_
  rintro e w' ⟨rfl, rfl⟩
  go_wp2_with (at_make; refine wpList_make_exact _ rfl _ _ 24 rfl 5 i0 _ Tryd.underlying24 hi hz0 hz1 .i64 .i64 (cl m 8) rfl rfl ?c1 ?c2 ?_)
  case c1 => rw [hz2]; omega
  case c2 => unfold maxLen; omega
  go_loopw [12] (fun i wr => ∃ j : Nat, j ≤ cl m 8 ∧ i = .int .i64 j ∧ wr = w'.alloc (.cells (layA n (cl m 8) j) 5)) (fun i _ => cl m 8 - (intOf i).toNat)
  case atStart => exact ⟨0, Nat.zero_le _, rfl, by rw [← layA_zero n]⟩
  case round =>
    obtain ⟨j, hj, rfl, rfl⟩ := hrel
    by_cases hlt : j < cl m 8
    · have HO : Hid (IntKind.u64.wrap n / 2 ^ (8 * j) % 256 = octet n j) := (IntKind.wrap_u8 _).symm.trans (octet_math n j (by omega))
      have hget := layA_get n (cl m 8) j j hlt
      have HS : Hid ((layA n (cl m 8) j).setIfInBounds j (.int .u8 (octet n j)) = layA n (cl m 8) (j + 1)) := layA_succ _ _ _ hlt
      go_wp2
      go_roundw
      case rel => exact ⟨j + 1, by omega, by go_num, by rw [HO.out, HS.out]⟩
      case measure => simp [intOf]; omega
    · have e : j = cl m 8 := by omega
      subst e
      go_wp2
      go_ret
      exact ⟨rfl, by rw [HF.out]⟩
end Go.Proofs.YtfclhehpbniapaaDoor
