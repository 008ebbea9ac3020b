/- What is read of a row: 'Has', 'Count', 'Find', 'Next'. -/
import Derived.Test.YthpodknhidgedaaDoorRow8
namespace Go.Proofs.YthpodknhidgedaaDoor
open Go.RowKit
set_option linter.unusedVariables false

/-! ### Has -/
theorem has_core (x : Nat) (hx : x < 18446744073709551616) : bits .and .u64 (x : Nat) 1 = ((x.testBit 0).toNat : Int) := by
  have h := bits_and_u64_nat x 1 hx (by decide)
  rw [Nat.and_one_is_mod] at h
  rw [show (1 : Int) = ((1 : Nat) : Int) from rfl, h, Nat.testBit_zero]
  rcases Nat.mod_two_eq_zero_or_one x with e | e <;> simp [e]
theorem num_shift (B : Nat → Bool) (i : Nat) : (num B (64 * (i / 64)) 64 / 2 ^ (i % 64)).testBit 0 = B i := by
  rw [Nat.testBit_div_two_pow, num_bit, show 64 * (i / 64) + (0 + i % 64) = i by omega, decide_eq_true (by omega)]
  simp
set_option maxRecDepth 20000 in
theorem has_any (w : World) (p b n : Nat) (B : Nat → Bool) (i : Nat) (h : RowAt w p b n B) (hi : i < n) :
    Calls Tryd.prog 27 #[.pointer (some ⟨p, 0, none⟩), .int .i64 (i : Nat)] w fun x w' => x = .returned (.bool (B i)) ∧ w' = w := by
  have hs := h.s_cell
  have hnc := h.n_cell
  have hn := h.small
  have hj : i / 64 < wn n := wn_lt hi
  have hcell := h.w_cell (i / 64) hj
  have hq : ((i : Nat) : Int).tdiv 64 = ((i / 64 : Nat) : Int) := Int.ofNat_tdiv i 64
  have hr : ((i : Nat) : Int).tmod 64 = ((i % 64 : Nat) : Int) := Int.ofNat_tmod i 64
  have hd : ((num B (64 * (i / 64)) 64 : Nat) : Int) / 2 ^ (i % 64) = ((num B (64 * (i / 64)) 64 / 2 ^ (i % 64) : Nat) : Int) := by simp
  have ha := has_core (num B (64 * (i / 64)) 64 / 2 ^ (i % 64)) (Nat.lt_of_le_of_lt (Nat.div_le_self _ _) (num_lt64 _ _))
  rw [num_shift] at ha
  generalize num B (64 * (i / 64)) 64 / 2 ^ (i % 64) = y at *
  generalize num B (64 * (i / 64)) 64 = N at *
  have hg64 : i % 64 < 64 := Nat.mod_lt _ (by decide)
  have hq16 : i / 64 < 65536 := by omega
  generalize i / 64 = q at *
  generalize i % 64 = g at *
  clear h
  cases hB : B i
  · rw [hB] at ha
    go_enter Tryd.func27, Tryd.ntmps27
    go_wp2
    go_ret
    exact ⟨rfl, rfl⟩
  · rw [hB] at ha
    go_enter Tryd.func27, Tryd.ntmps27
    go_wp2
    go_ret
    exact ⟨rfl, rfl⟩

/-! ### Count -/
theorem cnt_word (B : Nat → Bool) (o : Nat) : cnt (fun i => (num B o 64).testBit i) 0 64 = cnt B o 64 := cnt_congr fun i hi => by
  show (num B o 64).testBit (0 + i) = B (o + i)
  rw [Nat.zero_add, num_bit, decide_eq_true hi]; simp
theorem cnt_tail {B : Nat → Bool} {n m : Nat} (h : n ≤ m) (ht : ∀ i, n ≤ i → B i = false) : cnt B 0 m = cnt B 0 n := cnt_seek h fun i h1 _ => ht i h1
set_option maxRecDepth 20000 in
theorem count_any (w : World) (p b n : Nat) (B : Nat → Bool) (h : RowAt w p b n B) :
    Calls Tryd.prog 31 #[.pointer (some ⟨p, 0, none⟩)] w fun x w' => x = .returned (.int .i64 (cnt B 0 n : Nat)) ∧ w' = w := by
  have hs := h.s_cell
  have hn := wn_le n h.small
  have HT : Hid (cnt B 0 (64 * wn n) = cnt B 0 n) := cnt_tail (by unfold wn; omega) h.tail
  have HC : Hid (∀ j, j < wn n → w.cell? ⟨b, j, none⟩ = some (.int .u64 (num B (64 * j) 64 : Nat))) := fun j hj => h.w_cell j hj
  clear h
  go_enter Tryd.func31, Tryd.ntmps31
  go_wp2
  go_loop [3, 11] (fun c i => ∃ k : Nat, k ≤ wn n ∧ i = .int .i64 (k : Nat) ∧ c = .int .i64 (cnt B 0 (64 * k) : Nat)) (fun _ i => wn n - (intOf i).toNat)
  case atStart => exact ⟨0, Nat.zero_le _, rfl, rfl⟩
  case round =>
    obtain ⟨k, hk, rfl, rfl⟩ := hrel
    by_cases hlt : k < wn n
    · have hcell := HC.out k hlt
      have hc := cnt_le B 0 (64 * k)
      have hc2 := cnt_le B (64 * k) 64
      have HA : Hid (cnt B 0 (64 * (k + 1)) = cnt B 0 (64 * k) + cnt B (64 * k) 64) := by
        unfold Hid
        rw [show 64 * (k + 1) = 64 * k + 64 by omega, cnt_add, Nat.zero_add]
      go_wp2_with fail
      refine (ones_any (num B (64 * k) 64) _ (num_lt64 _ _)).mono ?_
      rintro e w' ⟨rfl, rfl⟩
      rw [cnt_word]
      generalize cnt B 0 (64 * k) = c0 at *
      generalize cnt B (64 * k) 64 = c1 at *
      go_wp2
      go_round
      case rel => exact ⟨k + 1, by omega, by go_num, by rw [HA.out]; go_num⟩
      case measure => simp [intOf]; omega
    · obtain rfl : k = wn n := by omega
      go_wp2
      go_ret
      exact ⟨by rw [HT.out]; rfl, rfl⟩

/-! ### Next -/
/-! ### Find -/
/-- A run of k from y on has a bit that is set. -/
def Hit (B : Nat → Bool) (k y : Nat) : Prop := ∃ i, y ≤ i ∧ i < y + k ∧ B i = true
set_option maxRecDepth 20000 in
set_option maxHeartbeats 1000000 in
theorem find_any (w : World) (p b n : Nat) (B : Nat → Bool) (k : Nat) (h : RowAt w p b n B) (ht : Steps w) (hk : 1 ≤ k) (hk2 : k < 4611686018427387904) :
    Calls Tryd.prog 28 #[.pointer (some ⟨p, 0, none⟩), .int .i64 (k : Nat)] w fun x w' => ((∃ a : Nat, x = .returned (.int .i64 (a : Nat)) ∧ a + k ≤ n ∧ (∀ i, a ≤ i → i < a + k → B i = false) ∧ ∀ y, y < a → Hit B k y) ∨ (x = .returned (.int .i64 (-1)) ∧ ∀ y, y + k ≤ n → Hit B k y)) ∧ w' = w := by
  have hn := h.small
  have hnc := h.n_cell
  have HS : Hid (∀ a, a ≤ n → Calls Tryd.prog 35 #[.pointer (some ⟨p, 0, none⟩), .int .i64 (a : Nat), .int .i64 (n : Nat), .int .u64 18446744073709551615] w fun x w' => (∃ r : Nat, x = .returned (.int .i64 (r : Nat)) ∧ Seek B false a n r) ∧ w' = w) := fun a ha => seek_any w p b n B a n false h ht (Nat.le_refl _) (by omega)
  have HE : Hid (∀ a, a + k ≤ n → Calls Tryd.prog 35 #[.pointer (some ⟨p, 0, none⟩), .int .i64 (a : Nat), .int .i64 ((a : Int) + (k : Nat)), .int .u64 0] w fun x w' => (∃ r : Nat, x = .returned (.int .i64 (r : Nat)) ∧ Seek B true a (a + k) r) ∧ w' = w) := fun a ha => by
    have := seek_any w p b n B a (a + k) true h ht ha (by omega)
    rwa [Int.natCast_add] at this
  clear h ht
  go_enter Tryd.func28, Tryd.ntmps28
  go_wp2_with fail
  refine (HS.out 0 (Nat.zero_le _)).mono ?_
  rintro e w' ⟨⟨r0, rfl, hS⟩, rfl⟩
  have hr0 := hS.le
  have H0 : Hid (∀ y, y < r0 → y + k ≤ n → Hit B k y) := fun y h1 _ => ⟨y, Nat.le_refl _, by omega, by simpa using hS.none y (Nat.zero_le _) h1⟩
  have H1 : Hid (r0 < n → B r0 = false) := hS.here
  clear hS
  go_wp2
  go_loop [5] (fun at' => ∃ a : Nat, at' = .int .i64 (a : Nat) ∧ a ≤ n ∧ Hid (∀ y, y < a → y + k ≤ n → Hit B k y) ∧ Hid (a < n → B a = false)) (fun at' => n - (intOf at').toNat)
  case atStart => exact ⟨r0, rfl, hr0, H0, H1⟩
  case round =>
    obtain ⟨a, rfl, han, HY, HC⟩ := hrel
    by_cases hle : a + k ≤ n
    · have hle' : (a : Int) ≤ (n : Nat) - (k : Nat) := by omega
      go_wp2_with fail
      refine (HE.out a hle).mono ?_
      rintro e w2 ⟨⟨r, rfl, hS⟩, rfl⟩
      have hra := hS.from' (by omega)
      have hrk := hS.le
      have HS2 : Hid (Seek B true a (a + k) r) := hS
      clear hS
      by_cases hr : r = a + k
      · subst hr
        go_wp2
        go_ret
        exact ⟨.inl ⟨a, rfl, hle, fun i h1 h2 => HS2.out.none i h1 h2, fun y hy => HY.out y hy (by omega)⟩, rfl⟩
      · have hr2 : (((r : Nat) : Int) == (a : Nat) + (k : Nat)) = false := by simp; omega
        have hBr : Hid (B r = true) := HS2.out.here (by omega)
        go_wp2_with fail
        refine (HS.out r (by omega)).mono ?_
        rintro e w3 ⟨⟨a2, rfl, hS⟩, rfl⟩
        have ha2 := hS.from' (by omega)
        have ha3 := hS.le
        have hne : a < a2 := by
          apply Nat.lt_of_not_le
          intro hle2
          have e1 : a2 = r := by omega
          have e2 : r = a := by omega
          have := HC.out (by omega)
          rw [← e2, hBr.out] at this
          simp at this
        have H2 : Hid (∀ y, y < a2 → y + k ≤ n → Hit B k y) := fun y h1 h2 => by
          by_cases h3 : y < a
          · exact HY.out y h3 h2
          · by_cases h4 : y ≤ r
            · exact ⟨r, h4, by omega, hBr.out⟩
            · exact ⟨y, Nat.le_refl _, by omega, by simpa using hS.none y (by omega) h1⟩
        have H3 : Hid (a2 < n → B a2 = false) := hS.here
        clear hS
        go_wp2
        go_round
        case rel => exact ⟨a2, rfl, ha3, H2, H3⟩
        case measure => simp [intOf]; omega
    · have hle' : ¬ ((a : Int) ≤ (n : Nat) - (k : Nat)) := by omega
      go_wp2
      go_ret
      exact ⟨.inr ⟨rfl, fun y hy => HY.out y (by omega) hy⟩, rfl⟩
end Go.Proofs.YthpodknhidgedaaDoor
