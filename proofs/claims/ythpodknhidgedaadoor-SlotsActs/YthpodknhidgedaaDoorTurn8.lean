/- Runs turned over: 'there', 'turn', 'Set', 'Clear'. -/
import Derived.Test.YthpodknhidgedaaDoorRow8
import Derived.Test.YthpodknhidgedaaDoorWalkSmall
import Derived.Test.YthpodknhidgedaaDoorKept
import Derived.Deep.RegionHeld3
namespace Go.Proofs.YthpodknhidgedaaDoor
open Go.RowKit
set_option linter.unusedVariables false

theorem there_ok (w : World) (p b n : Nat) (B : Nat → Bool) (a k : Nat) (h : RowAt w p b n B) (hk : a + k ≤ n) :
    Calls Tryd.prog 40 #[.pointer (some ⟨p, 0, none⟩), .int .i64 (a : Nat), .int .i64 (k : Nat)] w fun x w' => x = .returned (.bool true) ∧ w' = w := by
  have hn := h.n_cell
  have hs := h.small
  clear h
  go_enter Tryd.func40, Tryd.ntmps40
  go_wp2
  go_ret
  exact ⟨ret_bool (decide_eq_true (by omega)), rfl⟩

theorem wordL_flip (B : Nat → Bool) (a m j : Nat) (h : a % 64 + m ≤ 64) (hj : a / 64 < j) :
    (wordL B j).toArray.setIfInBounds (a / 64) (Value.int .u64 ((num B (64 * (a / 64)) 64 ^^^ ((2 ^ m - 1) * 2 ^ (a % 64)) : Nat) : Int)) = (wordL (flipB B a m) j).toArray := by
  apply Array.ext_getElem?
  intro i
  rw [Array.getElem?_setIfInBounds]
  by_cases hi : a / 64 = i
  · subst hi
    rw [if_pos rfl, if_pos (by simp [wordL_length, hj]), wordL_at _ _ _ hj, num_flip h]
  · rw [if_neg hi]
    by_cases hl : i < j
    · rw [wordL_at _ _ _ hl, wordL_at _ _ _ hl, num_flip_off h (fun e => hi e.symm)]
    · rw [Array.getElem?_eq_none (by simp [wordL_length]; omega), Array.getElem?_eq_none (by simp [wordL_length]; omega)]
theorem RowAt.flip {w : World} {p b n a m : Nat} {B : Nat → Bool} (h : RowAt w p b n B) (hm : a % 64 + m ≤ 64) (ha : a + m ≤ n) (h0 : 0 < m) :
    RowAt (w.setCell ⟨b, a / 64, none⟩ (.int .u64 ((num B (64 * (a / 64)) 64 ^^^ ((2 ^ m - 1) * 2 ^ (a % 64)) : Nat) : Int))) p b n (flipB B a m) := by
  refine ⟨(Below.heap_setCell w _ _ p h.ne).trans h.head, ?_, h.small, fun i hi => ?_⟩
  · have := heap_set_row h.body (a / 64) (.int .u64 ((num B (64 * (a / 64)) 64 ^^^ ((2 ^ m - 1) * 2 ^ (a % 64)) : Nat) : Int))
    rwa [wordL_flip B a m (wn n) hm (wn_lt (by omega))] at this
  · unfold flipB
    rw [if_neg (by omega)]
    exact h.tail i hi
theorem low_ones (m : Nat) (hm : m ≤ 64) : IntKind.u64.wrap (lowI (-1) (cl (m : Nat) 64)) = ((2 ^ m - 1 : Nat) : Int) := by
  have hc : cl (m : Nat) 64 = m := by unfold cl; omega
  have hp := two_pow_pos m
  have hl := two_pow_le m hm
  have e : (-1 : Int) % 2 ^ m = 2 ^ m - 1 := by
    rw [Int.emod_def, show (-1 : Int) / 2 ^ m = -1 from Int.ediv_eq_neg_one_of_neg_of_le (by decide) (by omega)]
    omega
  have e2 : (((2 ^ m - 1 : Nat) : Int)) = 2 ^ m - 1 := by rw [Int.natCast_sub (Nat.two_pow_pos m)]; simp
  rw [hc, lowI, e, e2, IntKind.wrap_u64]
  unfold wrap64
  omega
theorem shl_ones (m g : Nat) (h : g + m ≤ 64) : IntKind.u64.wrap (((2 ^ m - 1 : Nat) : Int) * 2 ^ g) = (((2 ^ m - 1) * 2 ^ g : Nat) : Int) ∧ (2 ^ m - 1) * 2 ^ g < 18446744073709551616 := by
  have h1 : (2 ^ m - 1) * 2 ^ g < 18446744073709551616 := by
    have h2 : 2 ^ m * 2 ^ g ≤ 2 ^ 64 := by rw [← Nat.pow_add]; exact Nat.pow_le_pow_right (by decide) (by omega)
    have h3 : (2 ^ m - 1) * 2 ^ g + 2 ^ g = 2 ^ m * 2 ^ g := by
      have hp := Nat.two_pow_pos m
      rw [← Nat.succ_mul]; congr 1; omega
    have h4 := Nat.two_pow_pos g
    omega
  refine ⟨?_, h1⟩
  have e : ((2 ^ m - 1 : Nat) : Int) * 2 ^ g = (((2 ^ m - 1) * 2 ^ g : Nat) : Int) := by simp
  rw [e, IntKind.wrap_u64]
  omega

set_option maxRecDepth 20000 in
set_option maxHeartbeats 1000000 in
theorem turn_set (w : World) (p b n : Nat) (B : Nat → Bool) (a k i : Nat) (c : Bool) (h : RowAt w p b n B) (ht : Steps w) (hk : a + k ≤ n) (hi : a ≤ i) (hi2 : i < a + k) (hB : B i = c) :
    Calls Tryd.prog 38 #[.pointer (some ⟨p, 0, none⟩), .int .i64 (a : Nat), .int .i64 (k : Nat), .int .u64 (wantW c : Nat)] w fun x w' => x = .returned (.int .i64 2) ∧ w' = w := by
  have hn := h.small
  go_enter Tryd.func38, Tryd.ntmps38
  go_wp2_with fail
  refine (there_ok _ p b n B a k h hk).mono ?_
  rintro e w' ⟨rfl, rfl⟩
  go_wp2_with fail
  try rw [show ((a : Nat) : Int) + (k : Nat) = ((a + k : Nat) : Int) by omega]
  refine (seek_any _ p b n B a (a + k) c h ht hk (by omega)).mono ?_
  rintro e w' ⟨⟨r, rfl, hS⟩, rfl⟩
  have hr : r < a + k := by
    apply Nat.lt_of_not_le
    intro hle
    have := hS.none i hi (by omega)
    rw [hB] at this; cases c <;> simp at this
  clear hS hB hi hi2
  go_wp2
  go_ret
  exact ⟨rfl, rfl⟩

set_option maxRecDepth 20000 in
set_option maxHeartbeats 2000000 in
theorem turn_ok (w : World) (p b n : Nat) (B : Nat → Bool) (a k : Nat) (c : Bool) (h : RowAt w p b n B) (ht : Steps w) (hk : a + k ≤ n) (hB : ∀ i, a ≤ i → i < a + k → B i = !c) :
    Calls Tryd.prog 38 #[.pointer (some ⟨p, 0, none⟩), .int .i64 (a : Nat), .int .i64 (k : Nat), .int .u64 (wantW c : Nat)] w fun x w' => x = .returned (.int .i64 0) ∧ RowAt w' p b n (putB B a k c) ∧ Only b w w' := by
  have hn := h.small
  go_enter Tryd.func38, Tryd.ntmps38
  go_wp2_with fail
  refine (there_ok _ p b n B a k h hk).mono ?_
  rintro e w' ⟨rfl, rfl⟩
  go_wp2_with fail
  try rw [show ((a : Nat) : Int) + (k : Nat) = ((a + k : Nat) : Int) by omega]
  refine (seek_any _ p b n B a (a + k) c h ht hk (by omega)).mono ?_
  rintro e w' ⟨⟨r, rfl, hS⟩, rfl⟩
  have hr : r = a + k := by
    have h1 := hS.le
    have h2 := hS.from' (by omega)
    by_cases hlt : r < a + k
    · have e1 := hS.here hlt
      rw [hB r h2 hlt] at e1
      cases c <;> simp at e1
    · omega
  subst hr
  have H : Hid (RowAt w' p b n B) := h
  have HB : Hid (∀ i, a ≤ i → i < a + k → B i = !c) := hB
  clear hS h ht hB
  go_wp2_with fail
  go_loopw [1] (fun at' wr => ∃ j : Nat, at' = .int .i64 ((a + j : Nat) : Int) ∧ j ≤ k ∧ Hid (RowAt wr p b n (flipB B a j)) ∧ Hid (Only b w' wr)) (fun at' _ => a + k - (intOf at').toNat)
  case atStart => exact ⟨0, by go_num, Nat.zero_le _, by unfold Hid; rw [flipB_zero]; exact H.out, Only.refl _ _⟩
  case round =>
    obtain ⟨j, rfl, hjk, HR, HO⟩ := hrel
    by_cases hlt : j < k
    · have hq : ((a + j : Nat) : Int).tdiv 64 = (((a + j) / 64 : Nat) : Int) := Int.ofNat_tdiv (a + j) 64
      have hr : ((a + j : Nat) : Int).tmod 64 = (((a + j) % 64 : Nat) : Int) := Int.ofNat_tmod (a + j) 64
      have hs := HR.out.s_cell
      have hwl : (a + j) / 64 < wn n := wn_lt (by omega)
      have hcell := HR.out.w_cell ((a + j) / 64) hwl
      have hfree := HR.out.w_free ((a + j) / 64)
      have hg64 : (a + j) % 64 < 64 := Nat.mod_lt _ (by decide)
      generalize hx : a + j = x at *
      have HX : Hid (a + j = x) := hx
      have hxk : x < a + k := by omega
      generalize hg : x % 64 = g at *
      by_cases hmin : a + k - x < 64 - g
      · obtain ⟨m, hm⟩ : ∃ m, m = a + k - x := ⟨_, rfl⟩
        have hM : ((a : Int) + k) - x = (m : Nat) := by omega
        have hcond : (m : Int) < 64 - (g : Nat) := by omega
        have HM : Hid (m ≤ a + k - x ∧ 0 < m) := ⟨by omega, by omega⟩
        have hm64 : g + m ≤ 64 := by omega
        have hlow := low_ones m (by omega)
        obtain ⟨hshl, hyl⟩ := shl_ones m g hm64
        have HY : Hid ((2 ^ m - 1) * 2 ^ g = (2 ^ m - 1) * 2 ^ g) := rfl
        have HF := HR.out.flip (a := x) (m := m) (by omega) (by omega) (by omega)
        rw [hg] at HF
        have HF' : Hid (RowAt (wr.setCell ⟨b, x / 64, none⟩ (.int .u64 ((num (flipB B a j) (64 * (x / 64)) 64 ^^^ ((2 ^ m - 1) * 2 ^ g) : Nat) : Int))) p b n (flipB (flipB B a j) x m)) := HF
        have hxor := xor_nat (num (flipB B a j) (64 * (x / 64)) 64) ((2 ^ m - 1) * 2 ^ g) (num_lt64 _ _) hyl
        clear HF HY
        generalize (2 ^ m - 1) * 2 ^ g = y at *
        generalize 2 ^ m - 1 = o at *
        generalize num (flipB B a j) (64 * (x / 64)) 64 = N at *
        generalize N ^^^ y = V at *
        have hq16 : x / 64 < 65536 := by omega
        generalize x / 64 = q at *
        have hg3 : (64 ≤ g) = False := by simp; omega
        have hwq : IntKind.i64.wrap (q : Nat) = (q : Nat) := by rw [IntKind.wrap_i64]; omega
        have HF2 : Hid (RowAt (wr.setCell ⟨b, q, none⟩ (.int .u64 ((V : Nat) : Int))) p b n (flipB B a (j + m))) := by
          unfold Hid
          rw [← flipB_more, HX.out]; exact HF'.out
        have HO2 : Hid (Only b w' (wr.setCell ⟨b, q, none⟩ (.int .u64 ((V : Nat) : Int)))) := HO.out.setCell q _
        have HM2 : Hid (m = a + k - x) := hm
        clear hm hmin
        go_wp2_with fail
        go_region_with (go_at_call 41; refine (low_any (-1) (m : Nat) _).mono ?_; rintro e2 w2 ⟨rfl, rfl⟩)
        all_goals
          go_wp2
          go_roundw
          case rel => exact ⟨j + m, by go_num, by omega, HF2.out.drew, HO2.out.drew⟩
          case measure => simp [intOf]; omega
      · obtain ⟨m, hm⟩ : ∃ m, m = 64 - g := ⟨_, rfl⟩
        have hM : (64 : Int) - (g : Nat) = (m : Nat) := by omega
        have hcond : ¬ ((a : Int) + k - x < (m : Int)) := by omega
        have HM : Hid (m ≤ a + k - x ∧ 0 < m) := ⟨by omega, by omega⟩
        have hm64 : g + m ≤ 64 := by omega
        have hlow := low_ones m (by omega)
        obtain ⟨hshl, hyl⟩ := shl_ones m g hm64
        have HY : Hid ((2 ^ m - 1) * 2 ^ g = (2 ^ m - 1) * 2 ^ g) := rfl
        have HF := HR.out.flip (a := x) (m := m) (by omega) (by omega) (by omega)
        rw [hg] at HF
        have HF' : Hid (RowAt (wr.setCell ⟨b, x / 64, none⟩ (.int .u64 ((num (flipB B a j) (64 * (x / 64)) 64 ^^^ ((2 ^ m - 1) * 2 ^ g) : Nat) : Int))) p b n (flipB (flipB B a j) x m)) := HF
        have hxor := xor_nat (num (flipB B a j) (64 * (x / 64)) 64) ((2 ^ m - 1) * 2 ^ g) (num_lt64 _ _) hyl
        clear HF HY
        generalize (2 ^ m - 1) * 2 ^ g = y at *
        generalize 2 ^ m - 1 = o at *
        generalize num (flipB B a j) (64 * (x / 64)) 64 = N at *
        generalize N ^^^ y = V at *
        have hq16 : x / 64 < 65536 := by omega
        generalize x / 64 = q at *
        have hg3 : (64 ≤ g) = False := by simp; omega
        have hwq : IntKind.i64.wrap (q : Nat) = (q : Nat) := by rw [IntKind.wrap_i64]; omega
        have HF2 : Hid (RowAt (wr.setCell ⟨b, q, none⟩ (.int .u64 ((V : Nat) : Int))) p b n (flipB B a (j + m))) := by
          unfold Hid
          rw [← flipB_more, HX.out]; exact HF'.out
        have HO2 : Hid (Only b w' (wr.setCell ⟨b, q, none⟩ (.int .u64 ((V : Nat) : Int)))) := HO.out.setCell q _
        have HM2 : Hid (m = 64 - g) := hm
        clear hm hmin
        go_wp2_with fail
        go_region_with (go_at_call 41; refine (low_any (-1) (m : Nat) _).mono ?_; rintro e2 w2 ⟨rfl, rfl⟩)
        all_goals
          go_wp2
          go_roundw
          case rel => exact ⟨j + m, by go_num, by omega, HF2.out.drew, HO2.out.drew⟩
          case measure => simp [intOf]; omega
    · obtain rfl : j = k := by omega
      have HE : Hid (flipB B a j = putB B a j c) := flip_put HB.out
      go_wp2
      go_ret
      exact ⟨rfl, by rw [← HE.out]; exact HR.out, HO.out⟩

theorem set_ok (w : World) (p b n : Nat) (B : Nat → Bool) (a k : Nat) (h : RowAt w p b n B) (ht : Steps w) (hk : a + k ≤ n) (hB : ∀ i, a ≤ i → i < a + k → B i = false) :
    Calls Tryd.prog 34 #[.pointer (some ⟨p, 0, none⟩), .int .i64 (a : Nat), .int .i64 (k : Nat)] w fun x w' => x = .returned (.int .i64 0) ∧ RowAt w' p b n (putB B a k true) ∧ Only b w w' := by
  have HC : Hid (Calls Tryd.prog 38 #[.pointer (some ⟨p, 0, none⟩), .int .i64 (a : Nat), .int .i64 (k : Nat), .int .u64 0] w fun x w' => x = .returned (.int .i64 0) ∧ RowAt w' p b n (putB B a k true) ∧ Only b w w') := turn_ok w p b n B a k true h ht hk hB
  clear h ht hk hB
  go_enter Tryd.func34, Tryd.ntmps34
  go_wp2_with fail
  refine HC.out.mono ?_
  rintro e w' ⟨rfl, h1, h2⟩
  have H1 : Hid (RowAt w' p b n (putB B a k true)) := h1
  have H2 : Hid (Only b w w') := h2
  clear h1 h2
  go_wp2
  go_ret
  exact ⟨rfl, H1.out, H2.out⟩
theorem set_no (w : World) (p b n : Nat) (B : Nat → Bool) (a k i : Nat) (h : RowAt w p b n B) (ht : Steps w) (hk : a + k ≤ n) (hi : a ≤ i) (hi2 : i < a + k) (hB : B i = true) :
    Calls Tryd.prog 34 #[.pointer (some ⟨p, 0, none⟩), .int .i64 (a : Nat), .int .i64 (k : Nat)] w fun x w' => x = .returned (.int .i64 2) ∧ w' = w := by
  have HC : Hid (Calls Tryd.prog 38 #[.pointer (some ⟨p, 0, none⟩), .int .i64 (a : Nat), .int .i64 (k : Nat), .int .u64 0] w fun x w' => x = .returned (.int .i64 2) ∧ w' = w) := turn_set w p b n B a k i true h ht hk hi hi2 hB
  clear h ht hk hi hi2 hB
  go_enter Tryd.func34, Tryd.ntmps34
  go_wp2_with fail
  refine HC.out.mono ?_
  rintro e w' ⟨rfl, rfl⟩
  go_wp2
  go_ret
  exact ⟨rfl, rfl⟩
theorem clear_ok (w : World) (p b n : Nat) (B : Nat → Bool) (a k : Nat) (h : RowAt w p b n B) (ht : Steps w) (hk : a + k ≤ n) (hB : ∀ i, a ≤ i → i < a + k → B i = true) :
    Calls Tryd.prog 36 #[.pointer (some ⟨p, 0, none⟩), .int .i64 (a : Nat), .int .i64 (k : Nat)] w fun x w' => x = .returned (.int .i64 0) ∧ RowAt w' p b n (putB B a k false) ∧ Only b w w' := by
  have HC : Hid (Calls Tryd.prog 38 #[.pointer (some ⟨p, 0, none⟩), .int .i64 (a : Nat), .int .i64 (k : Nat), .int .u64 18446744073709551615] w fun x w' => x = .returned (.int .i64 0) ∧ RowAt w' p b n (putB B a k false) ∧ Only b w w') := turn_ok w p b n B a k false h ht hk hB
  clear h ht hk hB
  go_enter Tryd.func36, Tryd.ntmps36
  go_wp2_with fail
  refine HC.out.mono ?_
  rintro e w' ⟨rfl, h1, h2⟩
  have H1 : Hid (RowAt w' p b n (putB B a k false)) := h1
  have H2 : Hid (Only b w w') := h2
  clear h1 h2
  go_wp2
  go_ret
  exact ⟨rfl, H1.out, H2.out⟩
end Go.Proofs.YthpodknhidgedaaDoor
