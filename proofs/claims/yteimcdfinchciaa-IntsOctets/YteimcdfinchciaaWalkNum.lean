/- Contracts of zigzag, turning and the greatest bit: the program's functions and the reference's. -/
import Derived.Test.YteimcdfinchciaaWalkSmall
import Derived.Test.YteimcdfinchciaaMathNum
namespace Go.Proofs.Yteimcdfinchciaa
open Go.RowKit
set_option linter.unusedVariables false

theorem zig_any (n : Int) (w : World) (h1 : -9223372036854775808 ≤ n) (h2 : n ≤ 9223372036854775807) :
    Calls Try.prog 19 #[.int .i64 n] w fun e w' => e = .returned (.int .u64 (zigI n)) ∧ w' = w := by
  go_enter Try.func19, Try.ntmps19
  go_wp2
  go_ret
  exact ⟨ret_int (zig_math n h1 h2), rfl⟩

theorem refZig_any (n : Int) (w : World) (h1 : -9223372036854775808 ≤ n) (h2 : n ≤ 9223372036854775807) :
    Calls Try.prog 20 #[.int .i64 n] w fun e w' => e = .returned (.int .u64 (zigI n)) ∧ w' = w := by
  by_cases h : 0 ≤ n
  · go_enter Try.func20, Try.ntmps20
    go_wp2
    go_ret
    exact ⟨ret_int (by unfold zigI; rw [if_pos h]), rfl⟩
  · go_enter Try.func20, Try.ntmps20
    go_wp2
    go_ret
    exact ⟨ret_int (by unfold zigI; rw [if_neg (by omega)]; simp only [IntKind.wrap_u64]; omega), rfl⟩

theorem zag_any (u : Int) (w : World) (h1 : 0 ≤ u) (h2 : u ≤ 18446744073709551615) :
    Calls Try.prog 21 #[.int .u64 u] w fun e w' => e = .returned (.int .i64 (zagI u)) ∧ w' = w := by
  have HA : Hid (bits .and .u64 u 1 = u % 2) := and_one u h1 h2
  go_enter Try.func21, Try.ntmps21
  go_wp2
  go_ret
  refine ⟨ret_int ?_, rfl⟩
  rw [HA.out]
  unfold zagI
  by_cases h : u % 2 = 0
  · rw [if_pos h, h]
    simp [wrap64]
    rw [xor_i64_zero _ (by omega) (by omega)]
  · rw [if_neg h]
    have h' : u % 2 = 1 := by omega
    rw [h']
    simp [wrap64]
    rw [xor_i64_ones _ (by omega) (by omega)]

theorem turn_any (u b : Int) (w : World) (h0 : 0 ≤ u) (h1 : u ≤ 4294967295) :
    Calls Try.prog 22 #[.int .u32 u, .int .i64 b] w fun e w' => e = .returned (.int .u32 (turnBy u b)) ∧ w' = w := by
  have HA : bits .and .u64 (IntKind.u64.wrap b) 31 = ((b % 32).toNat : Int) := by
    rw [and_31 _ (by rw [IntKind.wrap_u64]; omega) (by rw [IntKind.wrap_u64]; omega), IntKind.wrap_u64]; omega
  have hl : (b % 32).toNat < 32 := by omega
  have HF : Hid (bits .or .u32 (IntKind.u32.wrap (u * 2 ^ (b % 32).toNat)) (u / 2 ^ (32 - (b % 32).toNat)) = turnBy u b) := by
    show _ = _
    rw [or_u32 u _ hl h0 h1, turnI_rotN u _ (by omega) h0 h1]; rfl
  generalize (b % 32).toNat = l at *
  go_enter Try.func22, Try.ntmps22
  go_wp2
  go_ret
  exact ⟨ret_int HF.out, rfl⟩

theorem tmod32 (b : Int) : (b.tmod 32 < 0 ∧ b.tmod 32 + 32 = b % 32) ∨ (0 ≤ b.tmod 32 ∧ b.tmod 32 = b % 32) := by
  have h := @Int.tmod_eq_emod b 32
  split at h
  · right; omega
  · left; simp at h; omega

theorem refTurn_any (u b : Int) (w : World) (h0 : 0 ≤ u) (h1 : u ≤ 4294967295) (hb1 : -9223372036854775808 ≤ b) (hb2 : b ≤ 9223372036854775807) :
    Calls Try.prog 23 #[.int .u32 u, .int .i64 b] w fun e w' => e = .returned (.int .u32 (turnBy u b)) ∧ w' = w := by
  have HE : Hid (∀ k : Nat, k = (b % 32).toNat → rotN k u = turnBy u b) := by
    intro k hk; subst hk; rfl
  have HR : Hid (∀ k : Nat, 0 ≤ rotN k u ∧ rotN k u ≤ 4294967295) := fun k => rotN_bd k u h0 h1
  rcases tmod32 b with ⟨hneg, ht⟩ | ⟨hneg, ht⟩
  · obtain ⟨L, hL⟩ : ∃ L : Nat, b.tmod 32 + 32 = L := ⟨(b.tmod 32 + 32).toNat, by omega⟩
    have hL2 : L = (b % 32).toNat := by omega
    clear ht
    have H2 : Hid (L = (b % 32).toNat) := hL2
    clear hL2
    go_enter Try.func23, Try.ntmps23
    go_wp2
    go_loop [5, 6] (fun j x => ∃ k : Nat, k ≤ L ∧ j = .int .i64 ((L : Int) - k) ∧ x = .int .u64 (rotN k u)) (fun j _ => (intOf j).toNat)
    case atStart => exact ⟨0, Nat.zero_le _, by simp, by simp [rotN]⟩
    case round =>
      obtain ⟨k, hk, rfl, rfl⟩ := hrel
      have hr := HR.out k
      by_cases hlt : k < L
      · have HS : Hid (rotN (k + 1) u = rotN k u * 2 % 4294967296 + rotN k u * 2 / 4294967296) := rfl
        go_wp2
        go_round
        case rel => exact ⟨k + 1, by omega, by congr 1; omega, by rw [HS.out]⟩
        case measure => simp [intOf]; omega
      · have e : k = L := by omega
        subst e
        go_wp2
        go_ret
        exact ⟨ret_int (HE.out k H2.out), rfl⟩
  · obtain ⟨L, hL⟩ : ∃ L : Nat, b.tmod 32 = L := ⟨(b.tmod 32).toNat, by omega⟩
    have hL2 : L = (b % 32).toNat := by omega
    have hL3 : L < 32 := by omega
    clear ht
    have H2 : Hid (L = (b % 32).toNat) := hL2
    clear hL2
    go_enter Try.func23, Try.ntmps23
    go_wp2
    go_loop [5, 6] (fun j x => ∃ k : Nat, k ≤ L ∧ j = .int .i64 ((L : Int) - k) ∧ x = .int .u64 (rotN k u)) (fun j _ => (intOf j).toNat)
    case atStart => exact ⟨0, Nat.zero_le _, by simp, by simp [rotN]⟩
    case round =>
      obtain ⟨k, hk, rfl, rfl⟩ := hrel
      have hr := HR.out k
      by_cases hlt : k < L
      · have HS : Hid (rotN (k + 1) u = rotN k u * 2 % 4294967296 + rotN k u * 2 / 4294967296) := rfl
        go_wp2
        go_round
        case rel => exact ⟨k + 1, by omega, by congr 1; omega, by rw [HS.out]⟩
        case measure => simp [intOf]; omega
      · have e : k = L := by omega
        subst e
        go_wp2
        go_ret
        exact ⟨ret_int (HE.out k H2.out), rfl⟩

theorem log_any (u : Int) (w : World) (h1 : 0 ≤ u) (h2 : u ≤ 18446744073709551615) :
    Calls Try.prog 24 #[.int .u64 u] w fun e w' => e = .returned (.int .i64 (lgI u)) ∧ w' = w := by
  have hb := lgI_bd u h2
  go_enter Try.func24, Try.ntmps24
  go_wp2
  go_loop [0, 3] (fun x a => ∃ v : Int, 0 ≤ v ∧ v ≤ 18446744073709551615 ∧ x = .int .u64 v ∧ a = .int .i64 (lgI u - (lgI v + 1))) (fun x _ => (intOf x).toNat)
  case atStart => exact ⟨u, h1, h2, rfl, by congr 1; omega⟩
  case round =>
    obtain ⟨v, hv0, hv1, rfl, rfl⟩ := hrel
    have hbv := lgI_bd v hv1
    by_cases hp : 0 < v
    · have HS : Hid (lgI v = lgI (v / 2) + 1) := lgI_step v hp
      go_wp2
      go_round
      case rel => exact ⟨v / 2, by omega, by omega, rfl, by have := HS.out; congr 1; omega⟩
      case measure => simp [intOf]; omega
    · have HS : Hid (lgI v = -1) := lgI_zero v (by omega)
      go_wp2
      go_ret
      exact ⟨ret_int (by have := HS.out; omega), rfl⟩

theorem refLog_any (u : Int) (w : World) (h1 : 0 ≤ u) (h2 : u ≤ 18446744073709551615) :
    Calls Try.prog 25 #[.int .u64 u] w fun e w' => e = .returned (.int .i64 (lgI u)) ∧ w' = w := by
  have hb := lgI_bd u h2
  go_enter Try.func25, Try.ntmps25
  go_wp2
  go_loop [0, 3] (fun x a => ∃ v : Int, 0 ≤ v ∧ v ≤ 18446744073709551615 ∧ x = .int .u64 v ∧ a = .int .i64 (lgI u - (lgI v + 1))) (fun x _ => (intOf x).toNat)
  case atStart => exact ⟨u, h1, h2, rfl, by congr 1; omega⟩
  case round =>
    obtain ⟨v, hv0, hv1, rfl, rfl⟩ := hrel
    have hbv := lgI_bd v hv1
    by_cases hp : 0 < v
    · have HS : Hid (lgI v = lgI (v / 2) + 1) := lgI_step v hp
      go_wp2
      go_round
      case rel => exact ⟨v / 2, by omega, by omega, rfl, by have := HS.out; congr 1; omega⟩
      case measure => simp [intOf]; omega
    · have HS : Hid (lgI v = -1) := lgI_zero v (by omega)
      go_wp2
      go_ret
      exact ⟨ret_int (by have := HS.out; omega), rfl⟩
end Go.Proofs.Yteimcdfinchciaa
