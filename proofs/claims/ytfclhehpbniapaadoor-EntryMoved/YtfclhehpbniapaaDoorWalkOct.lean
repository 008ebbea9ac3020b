/- Contracts of the reference's 'Lay' and of both 'Get': octets to numbers and back. -/
import Derived.Test.YtfclhehpbniapaaDoorWalkGet
import Derived.Test.YtfclhehpbniapaaDoorWalkBits
import Derived.Test.YtfclhehpbniapaaDoorMathOct
namespace Go.Proofs.YtfclhehpbniapaaDoor
open Go.RowKit
set_option linter.unusedVariables false

def accI (n : Int) (k t : Nat) : Int := n / 2 ^ (8 * k + t) % 2 ^ (8 - t)
theorem accI_start (n : Int) (k : Nat) : accI n k 8 = 0 := by unfold accI; simp
theorem accI_end (n : Int) (k : Nat) : accI n k 0 = octet n k := rfl
theorem accI_bd (n : Int) (k t : Nat) : 0 ≤ accI n k t ∧ accI n k t < 256 := by
  unfold accI
  have h1 := sgn_bounds (n / 2 ^ (8 * k + t)) (8 - t)
  have h2 : (2 : Int) ^ (8 - t) ≤ 256 := by
    have : 8 - t = 0 ∨ 8 - t = 1 ∨ 8 - t = 2 ∨ 8 - t = 3 ∨ 8 - t = 4 ∨ 8 - t = 5 ∨ 8 - t = 6 ∨ 8 - t = 7 ∨ 8 - t = 8 := by omega
    rcases this with h | h | h | h | h | h | h | h | h <;> rw [h] <;> decide
  omega
theorem accI_step (n : Int) (k t : Nat) (ht : t + 1 ≤ 8) : accI n k (t + 1) * 2 + n / 2 ^ (8 * k + t) % 2 = accI n k t := by
  have := bits_down n (8 * k + t) (8 - (t + 1))
  rw [show 8 - (t + 1) + 1 = 8 - t by omega] at this
  exact this

set_option maxHeartbeats 800000 in
set_option maxRecDepth 20000 in
theorem refLay_any (n m : Int) (w : World) :
    Calls Tryd.prog 16 #[.int .i64 n, .int .i64 m] w fun e w' => ∃ v, e = .returned v ∧ w'.ownsRow w.heap.size 5 1 v (cl m 8) ((octL n (cl m 8)).map (Value.int .u8)) ∧ Below w.heap.size w w' := by
  obtain ⟨i0, hi, hz0, hz1, hz2⟩ := info_parts Tryd.infoU8
  have hK := cl_le m 8
  go_enter Tryd.func16, Tryd.ntmps16
  go_wp2_with fail
  go_loopw [5, 6] (fun v i wr => ∃ k : Nat, k ≤ cl m 8 ∧ i = .int .i64 k ∧ wr.ownsRow w.heap.size 5 1 v k ((octL n k).map (Value.int .u8)) ∧ Below w.heap.size w wr)
    (fun _ i _ => cl m 8 - (intOf i).toNat)
  case atStart => exact ⟨0, Nat.zero_le _, rfl, World.ownsRow_nil _ _ _ _, Below.refl _ _⟩
  case round =>
    obtain ⟨k, hk, rfl, hown, hnx⟩ := hrel
    have hsz := hnx.size
    go_wp2_with fail
    refine (refWithin_any m 8 _).mono ?_
    rintro e w' ⟨rfl, rfl⟩
    by_cases hlt : k < cl m 8
    · go_wp2_with fail
      go_loop [7, 8] (fun c j => ∃ t : Nat, t ≤ 8 ∧ j = .int .i64 ((t : Int) - 1) ∧ c = .int .i64 (accI n k t)) (fun _ j => (intOf j + 1).toNat)
      case atStart => exact ⟨8, Nat.le_refl _, rfl, by rw [accI_start]⟩
      case round =>
        obtain ⟨t, ht, rfl, rfl⟩ := hrel
        have hcb := accI_bd n k t
        cases t with
        | zero =>
          go_wp2_with (at_builtin; refine wpList_append_own _ rfl _ _ 24 rfl w.heap.size 5 i0 (.int .u8 0) 1 1 Tryd.underlying24 hi hz0 hz1 hz2 rfl (by decide) _ _ _ rfl (hown.alloc _) _ 1 1 [.int .u8 (accI n k 0)] rfl rfl one_new ?c2 ?c3 ?c4 ?c5 ?_)
          case c2 => rfl
          case c3 => unfold maxLen; omega
          case c4 => omega
          case c5 => omega
          intro v' w1 hown' hgrow _
          have R : Hid (w1.ownsRow w.heap.size 5 1 v' (k + 1) ((octL n (k + 1)).map (Value.int .u8))) := by
            rw [octL_succ, List.map_append]; exact hown'
          have R2 : Hid (Below w.heap.size w w1) := grow_step hown hnx hsz hgrow
          clear hown' hgrow hown hnx
          go_wp2
          go_roundw
          case rel => exact ⟨k + 1, by omega, by go_num, R.out, R2.out⟩
          case measure => simp [intOf]; omega
        | succ t =>
          have HD : Hid (accI n k (t + 1) * 2 + n / 2 ^ (8 * k + t) % 2 = accI n k t) := accI_step n k t ht
          have hbit : 0 ≤ n / 2 ^ (8 * k + t) % 2 ∧ n / 2 ^ (8 * k + t) % 2 ≤ 1 := by omega
          go_wp2_with fail
          rw [show (8 * (k : Int) + (t : Int)) = ((8 * k + t : Nat) : Int) by omega]
          refine (bit_any n (8 * k + t) (by omega) _).mono ?_
          rintro e w' ⟨rfl, rfl⟩
          go_wp2
          go_round
          case rel => exact ⟨t, by omega, by congr 1, by rw [HD.out]⟩
          case measure => simp [intOf]
    · have e : k = cl m 8 := by omega
      subst e
      go_wp2
      go_ret
      exact ⟨_, rfl, hown, hnx⟩

end Go.Proofs.YtfclhehpbniapaaDoor
