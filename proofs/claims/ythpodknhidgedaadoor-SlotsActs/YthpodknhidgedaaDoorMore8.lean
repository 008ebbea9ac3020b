/- Rows of bits, asked for what isn't there: 'Has', 'Set' and 'Clear' of one bit. -/
import Derived.Test.YthpodknhidgedaaDoorTurn8
import Derived.Test.YthpodknhidgedaaDoorFind8
namespace Go.Proofs.YthpodknhidgedaaDoor
open Go.RowKit
set_option linter.unusedVariables false

theorem len_any (w : World) (p b n : Nat) (B : Nat → Bool) (h : RowAt w p b n B) : Calls Tryd.prog 25 #[.pointer (some ⟨p, 0, none⟩)] w fun x w' => x = .returned (.int .i64 (n : Nat)) ∧ w' = w := by
  have hn := h.n_cell
  clear h
  go_enter Tryd.func25, Tryd.ntmps25
  go_wp2
  go_ret
  exact ⟨rfl, rfl⟩
theorem has_off (w : World) (p b n : Nat) (B : Nat → Bool) (i : Int) (h : RowAt w p b n B) (hi : i < 0 ∨ (n : Int) ≤ i) :
    Calls Tryd.prog 27 #[.pointer (some ⟨p, 0, none⟩), .int .i64 i] w fun x w' => x = .returned (.bool false) ∧ w' = w := by
  have hn := h.n_cell
  have hs := h.small
  clear h
  by_cases h0 : i < 0
  · go_enter Tryd.func27, Tryd.ntmps27
    go_wp2
    go_ret
    exact ⟨rfl, rfl⟩
  · have h1 : (n : Int) ≤ i := by omega
    go_enter Tryd.func27, Tryd.ntmps27
    go_wp2
    go_ret
    exact ⟨rfl, rfl⟩
theorem there_off (w : World) (p b n : Nat) (B : Nat → Bool) (a : Int) (h : RowAt w p b n B) (hm : -9223372036854775808 ≤ a) (hx : a ≤ 9223372036854775807) (ha : a < 0 ∨ (n : Int) ≤ a) :
    Calls Tryd.prog 40 #[.pointer (some ⟨p, 0, none⟩), .int .i64 a, .int .i64 1] w fun x w' => x = .returned (.bool false) ∧ w' = w := by
  have hn := h.n_cell
  have hs := h.small
  clear h
  by_cases h0 : a < 0
  · go_enter Tryd.func40, Tryd.ntmps40
    go_wp2
    go_ret
    exact ⟨rfl, rfl⟩
  · by_cases h1 : a ≤ (n : Int)
    · have h2 : a = (n : Int) := by omega
      subst h2
      go_enter Tryd.func40, Tryd.ntmps40
      go_wp2
      go_ret
      exact ⟨by simp, rfl⟩
    · go_enter Tryd.func40, Tryd.ntmps40
      go_wp2
      go_ret
      exact ⟨rfl, rfl⟩
theorem turn_off (w : World) (p b n : Nat) (B : Nat → Bool) (a u : Int) (h : RowAt w p b n B) (hm : -9223372036854775808 ≤ a) (hx : a ≤ 9223372036854775807) (ha : a < 0 ∨ (n : Int) ≤ a) :
    Calls Tryd.prog 38 #[.pointer (some ⟨p, 0, none⟩), .int .i64 a, .int .i64 1, .int .u64 u] w fun x w' => x = .returned (.int .i64 2) ∧ w' = w := by
  have HC : Hid (Calls Tryd.prog 40 #[.pointer (some ⟨p, 0, none⟩), .int .i64 a, .int .i64 1] w fun x w' => x = .returned (.bool false) ∧ w' = w) := there_off w p b n B a h hm hx ha
  clear h ha
  go_enter Tryd.func38, Tryd.ntmps38
  go_wp2_with fail
  refine HC.out.mono ?_
  rintro e w' ⟨rfl, rfl⟩
  go_wp2
  go_ret
  exact ⟨rfl, rfl⟩
theorem set_off (w : World) (p b n : Nat) (B : Nat → Bool) (a : Int) (h : RowAt w p b n B) (hm : -9223372036854775808 ≤ a) (hx : a ≤ 9223372036854775807) (ha : a < 0 ∨ (n : Int) ≤ a) :
    Calls Tryd.prog 34 #[.pointer (some ⟨p, 0, none⟩), .int .i64 a, .int .i64 1] w fun x w' => x = .returned (.int .i64 2) ∧ w' = w := by
  have HC : Hid (∀ u, Calls Tryd.prog 38 #[.pointer (some ⟨p, 0, none⟩), .int .i64 a, .int .i64 1, .int .u64 u] w fun x w' => x = .returned (.int .i64 2) ∧ w' = w) := fun u => turn_off w p b n B a u h hm hx ha
  clear h ha
  go_enter Tryd.func34, Tryd.ntmps34
  go_wp2_with fail
  refine (HC.out _).mono ?_
  rintro e w' ⟨rfl, rfl⟩
  go_wp2
  go_ret
  exact ⟨rfl, rfl⟩
theorem clear_off (w : World) (p b n : Nat) (B : Nat → Bool) (a : Int) (h : RowAt w p b n B) (hm : -9223372036854775808 ≤ a) (hx : a ≤ 9223372036854775807) (ha : a < 0 ∨ (n : Int) ≤ a) :
    Calls Tryd.prog 36 #[.pointer (some ⟨p, 0, none⟩), .int .i64 a, .int .i64 1] w fun x w' => x = .returned (.int .i64 2) ∧ w' = w := by
  have HC : Hid (∀ u, Calls Tryd.prog 38 #[.pointer (some ⟨p, 0, none⟩), .int .i64 a, .int .i64 1, .int .u64 u] w fun x w' => x = .returned (.int .i64 2) ∧ w' = w) := fun u => turn_off w p b n B a u h hm hx ha
  clear h ha
  go_enter Tryd.func36, Tryd.ntmps36
  go_wp2_with fail
  refine (HC.out _).mono ?_
  rintro e w' ⟨rfl, rfl⟩
  go_wp2
  go_ret
  exact ⟨rfl, rfl⟩
theorem clear_no (w : World) (p b n : Nat) (B : Nat → Bool) (a k i : Nat) (h : RowAt w p b n B) (ht : Steps w) (hk : a + k ≤ n) (hi : a ≤ i) (hi2 : i < a + k) (hB : B i = false) :
    Calls Tryd.prog 36 #[.pointer (some ⟨p, 0, none⟩), .int .i64 (a : Nat), .int .i64 (k : Nat)] w fun x w' => x = .returned (.int .i64 2) ∧ w' = w := by
  have HC : Hid (Calls Tryd.prog 38 #[.pointer (some ⟨p, 0, none⟩), .int .i64 (a : Nat), .int .i64 (k : Nat), .int .u64 18446744073709551615] w fun x w' => x = .returned (.int .i64 2) ∧ w' = w) := turn_set w p b n B a k i false h ht hk hi hi2 hB
  clear h ht hk hi hi2 hB
  go_enter Tryd.func36, Tryd.ntmps36
  go_wp2_with fail
  refine HC.out.mono ?_
  rintro e w' ⟨rfl, rfl⟩
  go_wp2
  go_ret
  exact ⟨rfl, rfl⟩
end Go.Proofs.YthpodknhidgedaaDoor
