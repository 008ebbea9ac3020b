/- Contracts of the reference's 'Lay' and of both 'Get': octets to numbers and back. -/
import Derived.Test.YtfclhehpbniapaaWalkGet
import Derived.Test.YtfclhehpbniapaaWalkBits
import Derived.Test.YtfclhehpbniapaaMathOct
namespace Go.Proofs.Ytfclhehpbniapaa
open Go.RowKit
set_option linter.unusedVariables false

def accI (n : Int) (k t : Nat) : Int := n / 2 ^ (8 * k + t) % 2 ^ (8 - t)
theorem accI_start (n : Int) (k : Nat) : accI n k 8 = 0 := by unfold accI; simp
theorem accI_end (n : Int) (k : Nat) : accI n k 0 = octet n k := rfl
theorem accI_bd (n : Int) (k t : Nat) : 0 ≤ accI n k t ∧ accI n k t < 256 := by
  unfold accI
  have h1 := sgn_bounds (n / 2 ^ (8 * k + t)) (8 - t)
  have h2 : (2 : Int) ^ (8 - t) ≤ 256 := by
    have : 8 - t = 0 ∨ 8 - t = 1 ∨ 8 - t = 2 ∨ 8 - t = 3 ∨ 8 - t = 4 ∨ 8 - t = 5 ∨ 8 - t = 6 ∨ 8 - t = 7 ∨ 8 - t = 8 := by omega
    rcases this with h | h | h | h | h | h | h | h | h <;> rw [h] <;> decide
  omega
theorem accI_step (n : Int) (k t : Nat) (ht : t + 1 ≤ 8) : accI n k (t + 1) * 2 + n / 2 ^ (8 * k + t) % 2 = accI n k t := by
  have := bits_down n (8 * k + t) (8 - (t + 1))
  rw [show 8 - (t + 1) + 1 = 8 - t by omega] at this
  exact this

set_option maxHeartbeats 800000 in
set_option maxRecDepth 20000 in
theorem refLay_any (n m : Int) (w : World) :
    Calls Try.prog 27 #[.int .i64 n, .int .i64 m] w fun e w' => ∃ v, e = .returned v ∧ w'.ownsRow w.heap.size 5 1 v (cl m 8) ((octL n (cl m 8)).map (Value.int .u8)) ∧ Below w.heap.size w w' := by
  obtain ⟨i0, hi, hz0, hz1, hz2⟩ := info_parts Try.infoU8
  have hK := cl_le m 8
  go_enter Try.func27, Try.ntmps27
  go_wp2_with fail
  go_loopw [5, 6] (fun v i wr => ∃ k : Nat, k ≤ cl m 8 ∧ i = .int .i64 k ∧ wr.ownsRow w.heap.size 5 1 v k ((octL n k).map (Value.int .u8)) ∧ Below w.heap.size w wr)
    (fun _ i _ => cl m 8 - (intOf i).toNat)
  case atStart => exact ⟨0, Nat.zero_le _, rfl, World.ownsRow_nil _ _ _ _, Below.refl _ _⟩
  case round =>
    obtain ⟨k, hk, rfl, hown, hnx⟩ := hrel
    have hsz := hnx.size
    go_wp2_with fail
    refine (refWithin_any m 8 _).mono ?_
    rintro e w' ⟨rfl, rfl⟩
    by_cases hlt : k < cl m 8
    · go_wp2_with fail
      go_loop [7, 8] (fun c j => ∃ t : Nat, t ≤ 8 ∧ j = .int .i64 ((t : Int) - 1) ∧ c = .int .i64 (accI n k t)) (fun _ j => (intOf j + 1).toNat)
      case atStart => exact ⟨8, Nat.le_refl _, rfl, by rw [accI_start]⟩
      case round =>
        obtain ⟨t, ht, rfl, rfl⟩ := hrel
        have hcb := accI_bd n k t
        cases t with
        | zero =>
          go_wp2_with (at_builtin; refine wpList_append_own _ rfl _ _ 23 rfl w.heap.size 5 i0 (.int .u8 0) 1 1 Try.underlying23 hi hz0 hz1 hz2 rfl (by decide) _ _ _ rfl (hown.alloc _) _ 1 1 [.int .u8 (accI n k 0)] rfl rfl one_new ?c2 ?c3 ?c4 ?c5 ?_)
          case c2 => rfl
          case c3 => unfold maxLen; omega
          case c4 => omega
          case c5 => omega
          intro v' w1 hown' hgrow _
          have R : Hid (w1.ownsRow w.heap.size 5 1 v' (k + 1) ((octL n (k + 1)).map (Value.int .u8))) := by
            rw [octL_succ, List.map_append]; exact hown'
          have R2 : Hid (Below w.heap.size w w1) := grow_step hown hnx hsz hgrow
          clear hown' hgrow hown hnx
          go_wp2
          go_roundw
          case rel => exact ⟨k + 1, by omega, by go_num, R.out, R2.out⟩
          case measure => simp [intOf]; omega
        | succ t =>
          have HD : Hid (accI n k (t + 1) * 2 + n / 2 ^ (8 * k + t) % 2 = accI n k t) := accI_step n k t ht
          have hbit : 0 ≤ n / 2 ^ (8 * k + t) % 2 ∧ n / 2 ^ (8 * k + t) % 2 ≤ 1 := by omega
          go_wp2_with fail
          rw [show (8 * (k : Int) + (t : Int)) = ((8 * k + t : Nat) : Int) by omega]
          refine (bit_any n (8 * k + t) (by omega) _).mono ?_
          rintro e w' ⟨rfl, rfl⟩
          go_wp2
          go_round
          case rel => exact ⟨t, by omega, by congr 1, by rw [HD.out]⟩
          case measure => simp [intOf]
    · have e : k = cl m 8 := by omega
      subst e
      go_wp2
      go_ret
      exact ⟨_, rfl, hown, hnx⟩

set_option maxHeartbeats 800000 in
set_option maxRecDepth 20000 in
theorem refGet_any (b off cap : Nat) (zs : List Int) (w : World) (hz : ∀ z ∈ zs, 0 ≤ z ∧ z ≤ 255) (hlen : zs.length ≤ 9223372036854775807) (hbk : b < w.heap.size)
    (hc : ∀ j, j < zs.length → w.cell? ⟨b, off + j, none⟩ = some (.int .u8 (zs[j]?.getD 0))) :
    Calls Try.prog 26 #[.slice (some ⟨b, off, none⟩) zs.length cap] w fun e w' => e = .returned (.int .i64 (getI zs)) ∧ Below w.heap.size w w' := by
  have HZ : Hid (∀ z ∈ zs, 0 ≤ z ∧ z ≤ 255) := hz
  have HC : Hid (∀ j, j < zs.length → w.cell? ⟨b, off + j, none⟩ = some (.int .u8 (zs[j]?.getD 0))) := hc
  clear hz hc
  obtain ⟨i0, hi, hz0, hz1, hz2⟩ := info_parts Try.infoInt
  go_enter Try.func26, Try.ntmps26
  go_wp2_with fail
  go_loopw [3, 4] (fun v i wr => ∃ k : Nat, k ≤ zs.length ∧ k ≤ 8 ∧ i = .int .i64 k ∧ wr.ownsRow w.heap.size 3 1 v (8 * k) ((bitsO (zs.take k)).map (Value.int .i64)) ∧ Below w.heap.size w wr)
    (fun _ i _ => 8 - (intOf i).toNat)
  case atStart => exact ⟨0, Nat.zero_le _, Nat.zero_le _, rfl, World.ownsRow_nil _ _ _ _, Below.refl _ _⟩
  case round =>
    obtain ⟨k, hk, hk8, rfl, hown, hnx⟩ := hrel
    have hsz := hnx.size
    by_cases hlt : k < zs.length ∧ k < 8
    · obtain ⟨h1, h2⟩ := hlt
      obtain ⟨z, hcell0, hb, HT⟩ := elem_oct HC.out HZ.out k h1
      have HCz : Hid (w.cell? ⟨b, off + k, none⟩ = some (.int .u8 z)) := hcell0
      clear hcell0
      have hd1 : decide ((k : Int) < zs.length) = true := by simp; omega
      have hd2 : decide ((k : Int) < 8) = true := by simp; omega
      obtain ⟨wo, rfl⟩ : ∃ wo : World, wo = wr := ⟨_, rfl⟩
      go_wp2_with fail
      go_loopw [3, 5] (fun v j wr => ∃ t : Nat, t ≤ 8 ∧ j = .int .i64 t ∧ wr.ownsRow w.heap.size 3 1 v (8 * k + t) ((bitsO (zs.take k) ++ bitsL z t).map (Value.int .i64)) ∧ Below w.heap.size w wr)
        (fun _ j _ => 8 - (intOf j).toNat)
      case atStart => exact ⟨0, Nat.zero_le _, rfl, by simpa [bitsL] using hown, hnx⟩
      case round =>
        clear hown hnx hsz
        obtain ⟨t, ht, rfl, hown, hnx⟩ := hrel
        have hsz := hnx.size
        by_cases hlt : t < 8
        · have hcell : wr.cell? ⟨b, off + k, none⟩ = some (.int .u8 z) := (hnx.cell (p := ⟨b, off + k, none⟩) hbk).trans HCz.out
          go_wp2_with fail
          refine (bit_any z t (by omega) _).mono ?_
          rintro e w' ⟨rfl, rfl⟩
          go_wp2_with (at_builtin; refine wpList_append_own _ rfl _ _ 76 rfl w.heap.size 3 i0 (.int .i64 0) 1 8 Try.underlying76 hi hz0 hz1 hz2 rfl (by decide) _ _ _ rfl (hown.alloc _) _ 1 1 [.int .i64 (z / 2 ^ t % 2)] rfl rfl one_new ?c2 ?c3 ?c4 ?c5 ?_)
          case c2 => first | rfl | (intro u hu; simp at hu; subst hu; rfl)
          case c3 => unfold maxLen; omega
          case c4 => omega
          case c5 => first | omega | (simp; omega)
          intro v' w1 hown' hgrow _
          have R : Hid (w1.ownsRow w.heap.size 3 1 v' (8 * k + (t + 1)) ((bitsO (zs.take k) ++ bitsL z (t + 1)).map (Value.int .i64))) := by
            unfold Hid; rw [bitsL_succ, ← List.append_assoc, List.map_append, List.map_append, List.append_assoc]; exact hown'
          have R2 : Hid (Below w.heap.size w w1) := grow_step hown hnx hsz hgrow
          clear hown' hgrow hown hnx hcell
          go_wp2
          go_roundw
          case rel => exact ⟨t + 1, by omega, by go_num, R.out, R2.out⟩
          case measure => simp [intOf]; omega
        · obtain rfl : t = 8 := by omega
          have R : Hid (∀ v, wr.ownsRow w.heap.size 3 1 v (8 * k + 8) ((bitsO (zs.take k) ++ bitsL z 8).map (Value.int .i64)) → wr.ownsRow w.heap.size 3 1 v (8 * (k + 1)) ((bitsO (zs.take (k + 1))).map (Value.int .i64))) := by
            intro v h
            rw [HT.out, bitsO_snoc]
            exact h
          go_wp2
          go_roundw
          case rel => exact ⟨k + 1, by omega, by omega, by go_num, R.out _ hown, hnx⟩
          case measure => simp [intOf]; omega
    · have hK : k = zs.length ∨ k = 8 := by omega
      have HM : Hid (wrap64 (ofN (bitsO (zs.take k))) = getI zs) := by
        unfold Hid
        have e : zs.take k = zs.take 8 := by
          rcases hK with h | h
          · rw [h, List.take_length, List.take_of_length_le (by omega)]
          · rw [h]
        rw [e, ofN_bitsO _ fun z h => HZ.out z (List.mem_of_mem_take h)]
        rfl
      have hl : (bitsO (zs.take k)).length ≤ 64 := by rw [bitsO_length, List.length_take]; omega
      rcases hK with h | h
      · have h' : ¬ (k : Int) < zs.length := by omega
        clear hlt h
        go_wp2_with fail
        refine (of_own w.heap.size (8 * k) _ (bitsO (zs.take k)) _ (bitsO_bits _) hl hown).mono ?_
        rintro e w' ⟨rfl, rfl⟩
        go_wp2
        go_ret
        exact ⟨ret_int HM.out, hnx⟩
      · by_cases h' : (k : Int) < zs.length
        · have h'' : ¬ (k : Int) < 8 := by omega
          clear hlt h
          go_wp2_with fail
          refine (of_own w.heap.size (8 * k) _ (bitsO (zs.take k)) _ (bitsO_bits _) hl hown).mono ?_
          rintro e w' ⟨rfl, rfl⟩
          go_wp2
          go_ret
          exact ⟨ret_int HM.out, hnx⟩
        · clear hlt h
          go_wp2_with fail
          refine (of_own w.heap.size (8 * k) _ (bitsO (zs.take k)) _ (bitsO_bits _) hl hown).mono ?_
          rintro e w' ⟨rfl, rfl⟩
          go_wp2
          go_ret
          exact ⟨ret_int HM.out, hnx⟩

theorem refGet_empty (a : Option Addr) (cap : Nat) (w : World) :
    Calls Try.prog 26 #[.slice a 0 cap] w fun e w' => e = .returned (.int .i64 (getI [])) ∧ w' = w := by
  go_enter Try.func26, Try.ntmps26
  go_wp2
  refine wp_loop_rounds 1 ?_
  rw [rounds_succ]
  go_wp2_with fail
  refine (of_nil _).mono ?_
  rintro e w' ⟨rfl, rfl⟩
  go_wp2
  go_ret
  exact ⟨rfl, rfl⟩
end Go.Proofs.Ytfclhehpbniapaa
