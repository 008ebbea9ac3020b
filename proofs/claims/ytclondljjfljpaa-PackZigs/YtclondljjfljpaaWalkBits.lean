/- Contracts of the reference's functions over lists of bits (of, Low, Signed): what each call returns. -/
import Derived.Test.YtclondljjfljpaaWalkSmall
import Derived.Test.YtclondljjfljpaaTools
namespace Go.Proofs.Ytclondljjfljpaa
open Go.RowKit
set_option linter.unusedVariables false

theorem Try.infoInt : (Try.prog.info? 3).map (fun i => (i.zero, i.size, i.bytes)) = some (some (.int .i64 0), 1, 8) := by kernel_rfl
theorem Try.infoU8 : (Try.prog.info? 5).map (fun i => (i.zero, i.size, i.bytes)) = some (some (.int .u8 0), 1, 1) := by kernel_rfl

theorem of_any (g cap : Nat) (xs : List Int) (w : World) (hx : ∀ b ∈ xs, 0 ≤ b ∧ b ≤ 1) (hl : xs.length ≤ 64)
    (hc : ∀ j, j < xs.length → w.cell? ⟨g, j, none⟩ = some (.int .i64 (xs[j]?.getD 0))) :
    Calls Try.prog 36 #[.slice (some ⟨g, 0, none⟩) xs.length cap] w fun e w' => e = .returned (.int .i64 (wrap64 (ofN xs))) ∧ w' = w := by
  have HX : Hid (∀ b ∈ xs, 0 ≤ b ∧ b ≤ 1) := hx
  have HC : Hid (∀ j, j < xs.length → w.cell? ⟨g, j, none⟩ = some (.int .i64 (xs[j]?.getD 0))) := hc
  clear hx hc
  go_enter Try.func36, Try.ntmps36
  go_wp2
  go_loop [3, 4] (fun u i => ∃ k : Nat, k ≤ xs.length ∧ i = .int .i64 ((k : Int) - 1) ∧ u = .int .u64 (ofN (xs.drop k))) (fun _ i => (intOf i + 1).toNat)
  case atStart => exact ⟨xs.length, Nat.le_refl _, rfl, by simp [ofN]⟩
  case round =>
    obtain ⟨k, hk, rfl, rfl⟩ := hrel
    cases k with
    | zero =>
      go_wp2
      go_ret
      exact ⟨ret_int (by simp), rfl⟩
    | succ k =>
      have hcell := HC.out k (by omega)
      have hb := getD_bit xs HX.out k
      have hd := ofN_drop_bd xs HX.out hl (k + 1) (by omega) hk
      have HS : Hid (ofN (xs.drop k) = ofN (xs.drop (k + 1)) * 2 + xs[k]?.getD 0) := ofN_drop xs k (by omega)
      go_wp2
      go_round
      case rel => exact ⟨k, by omega, by congr 1, by rw [HS.out]⟩
      case measure => simp [intOf]

theorem of_nil (w : World) :
    Calls Try.prog 36 #[.slice none 0 0] w fun e w' => e = .returned (.int .i64 (wrap64 (ofN []))) ∧ w' = w := by
  go_enter Try.func36, Try.ntmps36
  go_wp2
  refine wp_loop_rounds 1 ?_
  rw [rounds_succ]
  go_wp2
  go_ret
  exact ⟨ret_int (by simp [ofN, wrap64]), rfl⟩

/-- A row that the call owns, as a list of ints: what 'of' wants of it. -/
theorem of_own (base n : Nat) (v : Value) (xs : List Int) (w : World) (hx : ∀ b ∈ xs, 0 ≤ b ∧ b ≤ 1) (hl : xs.length ≤ 64)
    (h : w.ownsRow base 3 1 v n (xs.map (Value.int .i64))) :
    Calls Try.prog 36 #[v] w fun e w' => e = .returned (.int .i64 (wrap64 (ofN xs))) ∧ w' = w := by
  have h1 := h.1
  simp at h1
  rcases h.2 with ⟨rfl, hn⟩ | ⟨g, cap, cur, rfl, hb, hg, hrest⟩
  · have : xs = [] := List.eq_nil_of_length_eq_zero (by omega)
    subst this
    exact of_nil w
  · subst h1
    refine of_any g cap xs w hx hl ?_
    intro j hj
    have := h.cells (g := g) rfl j (.int .i64 (xs[j]?.getD 0)) (by simp [List.getElem?_map, List.getElem?_eq_getElem hj])
    rwa [addr_add] at this

set_option maxHeartbeats 800000 in
theorem refLow_any (n m : Int) (w : World) :
    Calls Try.prog 13 #[.int .i64 n, .int .i64 m] w fun e w' => e = .returned (.int .i64 (lowI n (cl m 64))) ∧ Below w.heap.size w w' := by
  obtain ⟨i0, hi, hz0, hz1, hz2⟩ := info_parts Try.infoInt
  have hK := cl_le m 64
  go_enter Try.func13, Try.ntmps13
  go_wp2_with fail
  go_loopw [5, 6] (fun v i wr => ∃ k : Nat, k ≤ cl m 64 ∧ i = .int .i64 k ∧ wr.ownsRow w.heap.size 3 1 v k ((bitsL n k).map (Value.int .i64)) ∧ Below w.heap.size w wr)
    (fun _ i _ => cl m 64 - (intOf i).toNat)
  case atStart => exact ⟨0, Nat.zero_le _, rfl, World.ownsRow_nil _ _ _ _, Below.refl _ _⟩
  case round =>
    obtain ⟨k, hk, rfl, hown, hnx⟩ := hrel
    have hsz := hnx.size
    go_wp2_with fail
    refine (refWithin_any m 64 _).mono ?_
    rintro e w' ⟨rfl, rfl⟩
    by_cases hlt : k < cl m 64
    · go_wp2_with fail
      refine (bit_any n k (by omega) _).mono ?_
      rintro e w' ⟨rfl, rfl⟩
      go_wp2_with (at_builtin; refine wpList_append_own _ rfl _ _ 54 rfl w.heap.size 3 i0 (.int .i64 0) 1 8 Try.underlying54 hi hz0 hz1 hz2 rfl (by decide) _ _ _ rfl (hown.alloc _) _ 1 1 [.int .i64 (n / 2 ^ k % 2)] rfl rfl one_new ?c2 ?c3 ?c4 ?c5 ?_)
      case c2 => intro u hu; simp at hu; subst hu; rfl
      case c3 => unfold maxLen; omega
      case c4 => omega
      case c5 => simp; omega
      intro v' w1 hown' hgrow _
      have R : Hid (w1.ownsRow w.heap.size 3 1 v' (k + 1) ((bitsL n (k + 1)).map (Value.int .i64))) := by
        rw [bitsL_succ, List.map_append]; exact hown'
      have R2 : Hid (Below w.heap.size w w1) := grow_step hown hnx hsz hgrow
      clear hown' hgrow hown hnx
      go_wp2
      go_roundw
      case rel => exact ⟨k + 1, by omega, by go_num, R.out, R2.out⟩
      case measure => simp [intOf]; omega
    · have e : k = cl m 64 := by omega
      go_wp2_with fail
      refine (of_own w.heap.size k _ (bitsL n k) _ (bitsL_bits n k) (by rw [bitsL_length]; omega) hown).mono ?_
      rintro e w' ⟨rfl, rfl⟩
      go_wp2
      go_ret
      exact ⟨ret_int (refLow_math _ _), hnx⟩

def lastI (n : Int) (k i : Nat) : Int := if i = 0 then 0 else sbit n k (i - 1)
theorem lastI_lo (n : Int) (k i : Nat) (h : i < k) : sbit n k i = n / 2 ^ i % 2 := by
  unfold sbit; rw [if_neg (by omega), show min i (k - 1) = i by omega]
theorem lastI_hi (n : Int) (k i : Nat) (h : ¬ i < k) : lastI n k i = sbit n k i := by
  unfold lastI sbit
  by_cases h0 : k = 0
  · simp [h0]
  · rw [if_neg (by omega), if_neg h0, if_neg h0, show min (i - 1) (k - 1) = min i (k - 1) by omega]
theorem lastI_succ (n : Int) (k i : Nat) : lastI n k (i + 1) = sbit n k i := by unfold lastI; rw [if_neg (by omega)]; simp

set_option maxHeartbeats 800000 in
theorem refSigned_any (n m : Int) (w : World) :
    Calls Try.prog 48 #[.int .i64 n, .int .i64 m] w fun e w' => e = .returned (.int .i64 (sgnI n (cl m 64))) ∧ Below w.heap.size w w' := by
  obtain ⟨i0, hi, hz0, hz1, hz2⟩ := info_parts Try.infoInt
  have hK := cl_le m 64
  go_enter Try.func48, Try.ntmps48
  go_wp2_with fail
  go_loopw [5, 6, 7] (fun v l i wr => ∃ k : Nat, k ≤ 64 ∧ i = .int .i64 k ∧ l = .int .i64 (lastI n (cl m 64) k) ∧ wr.ownsRow w.heap.size 3 1 v k ((sbitsL n (cl m 64) k).map (Value.int .i64)) ∧ Below w.heap.size w wr)
    (fun _ _ i _ => 64 - (intOf i).toNat)
  case atStart => exact ⟨0, Nat.zero_le _, rfl, rfl, World.ownsRow_nil _ _ _ _, Below.refl _ _⟩
  case round =>
    obtain ⟨k, hk, rfl, rfl, hown, hnx⟩ := hrel
    have hsz := hnx.size
    by_cases hlt : k < 64
    · go_wp2_with fail
      refine (refWithin_any m 64 _).mono ?_
      rintro e w' ⟨rfl, rfl⟩
      have HL : Hid (lastI n (cl m 64) (k + 1) = sbit n (cl m 64) k) := lastI_succ _ _ _
      by_cases hin : k < cl m 64
      · have HB : Hid (n / 2 ^ k % 2 = sbit n (cl m 64) k) := (lastI_lo _ _ _ hin).symm
        go_wp2_with fail
        refine (bit_any n k (by omega) _).mono ?_
        rintro e w' ⟨rfl, rfl⟩
        rw [HB.out]
        go_wp2_with (at_builtin; refine wpList_append_own _ rfl _ _ 54 rfl w.heap.size 3 i0 (.int .i64 0) 1 8 Try.underlying54 hi hz0 hz1 hz2 rfl (by decide) _ _ _ rfl (hown.alloc _) _ 1 1 [.int .i64 (sbit n (cl m 64) k)] rfl rfl one_new ?c2 ?c3 ?c4 ?c5 ?_)
        case c2 => intro u hu; simp at hu; subst hu; rfl
        case c3 => unfold maxLen; omega
        case c4 => omega
        case c5 => simp; omega
        intro v' w1 hown' hgrow _
        have R : Hid (w1.ownsRow w.heap.size 3 1 v' (k + 1) ((sbitsL n (cl m 64) (k + 1)).map (Value.int .i64))) := by
          rw [sbitsL_succ, List.map_append]; exact hown'
        have R2 : Hid (Below w.heap.size w w1) := grow_step hown hnx hsz hgrow
        clear hown' hgrow hown hnx
        go_wp2
        go_roundw
        case rel => exact ⟨k + 1, by omega, by go_num, by rw [HL.out], R.out, R2.out⟩
        case measure => simp [intOf]; omega
      · have HB : Hid (lastI n (cl m 64) k = sbit n (cl m 64) k) := lastI_hi _ _ _ hin
        rw [HB.out]
        go_wp2_with (at_builtin; refine wpList_append_own _ rfl _ _ 54 rfl w.heap.size 3 i0 (.int .i64 0) 1 8 Try.underlying54 hi hz0 hz1 hz2 rfl (by decide) _ _ _ rfl (hown.alloc _) _ 1 1 [.int .i64 (sbit n (cl m 64) k)] rfl rfl one_new ?c2 ?c3 ?c4 ?c5 ?_)
        case c2 => intro u hu; simp at hu; subst hu; rfl
        case c3 => unfold maxLen; omega
        case c4 => omega
        case c5 => simp; omega
        intro v' w1 hown' hgrow _
        have R : Hid (w1.ownsRow w.heap.size 3 1 v' (k + 1) ((sbitsL n (cl m 64) (k + 1)).map (Value.int .i64))) := by
          rw [sbitsL_succ, List.map_append]; exact hown'
        have R2 : Hid (Below w.heap.size w w1) := grow_step hown hnx hsz hgrow
        clear hown' hgrow hown hnx
        go_wp2
        go_roundw
        case rel => exact ⟨k + 1, by omega, by go_num, by rw [HL.out], R.out, R2.out⟩
        case measure => simp [intOf]; omega
    · have e : k = 64 := by omega
      subst e
      go_wp2_with fail
      refine (of_own w.heap.size 64 _ (sbitsL n (cl m 64) 64) _ (sbitsL_bits _ _ _) (by rw [sbitsL_length]; omega) hown).mono ?_
      rintro e w' ⟨rfl, rfl⟩
      go_wp2
      go_ret
      exact ⟨ret_int (refSigned_math _ _ hK), hnx⟩
end Go.Proofs.Ytclondljjfljpaa
