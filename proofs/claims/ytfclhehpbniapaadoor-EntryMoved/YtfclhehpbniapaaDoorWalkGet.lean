/- Contract of 'Get': the number of octets. -/
import Derived.Test.YtfclhehpbniapaaDoorWalkLay
import Derived.Test.YtfclhehpbniapaaDoorMathOct
namespace Go.Proofs.YtfclhehpbniapaaDoor
open Go.RowKit
set_option linter.unusedVariables false

theorem octL_succ (n : Int) (k : Nat) : octL n (k + 1) = octL n k ++ [octet n k] := by simp [octL, List.range_succ]
theorem octL_length (n : Int) (k : Nat) : (octL n k).length = k := by simp [octL]

theorem take_snoc (zs : List Int) (k : Nat) (h : k < zs.length) : zs.take (k + 1) = zs.take k ++ [zs[k]?.getD 0] := by
  rw [List.take_add_one, List.getElem?_eq_getElem h]; rfl
theorem getD_oct (l : List Int) (h : ∀ b ∈ l, 0 ≤ b ∧ b ≤ 255) (k : Nat) : 0 ≤ l[k]?.getD 0 ∧ l[k]?.getD 0 ≤ 255 := by
  by_cases hk : k < l.length
  · rw [List.getElem?_eq_getElem hk]; exact h _ (List.getElem_mem hk)
  · rw [List.getElem?_eq_none (by omega)]; simp

/-- The k-th octet of a row, as a letter of its own. -/
theorem elem_oct {w : World} {b off : Nat} {zs : List Int} (hc : ∀ j, j < zs.length → w.cell? ⟨b, off + j, none⟩ = some (.int .u8 (zs[j]?.getD 0))) (hz : ∀ z ∈ zs, 0 ≤ z ∧ z ≤ 255) (k : Nat) (hk : k < zs.length) :
    ∃ z, w.cell? ⟨b, off + k, none⟩ = some (.int .u8 z) ∧ (0 ≤ z ∧ z ≤ 255) ∧ Hid (zs.take (k + 1) = zs.take k ++ [z]) :=
  ⟨zs[k]?.getD 0, hc k hk, getD_oct zs hz k, take_snoc zs k hk⟩

/-- The number of the first eight octets. -/
def getI (zs : List Int) : Int := wrap64 (getN (zs.take 8))

theorem get_any (b off cap : Nat) (zs : List Int) (w : World) (hz : ∀ z ∈ zs, 0 ≤ z ∧ z ≤ 255) (hlen : zs.length ≤ 9223372036854775807)
    (hc : ∀ j, j < zs.length → w.cell? ⟨b, off + j, none⟩ = some (.int .u8 (zs[j]?.getD 0))) :
    Calls Tryd.prog 33 #[.slice (some ⟨b, off, none⟩) zs.length cap] w fun e w' => e = .returned (.int .i64 (getI zs)) ∧ w' = w := by
  have HZ : Hid (∀ z ∈ zs, 0 ≤ z ∧ z ≤ 255) := hz
  have HC : Hid (∀ j, j < zs.length → w.cell? ⟨b, off + j, none⟩ = some (.int .u8 (zs[j]?.getD 0))) := hc
  clear hz hc
  by_cases h8 : 8 < zs.length
  · have h8' : (8 : Int) < zs.length := by omega
    go_enter Tryd.func33, Tryd.ntmps33
    go_wp2
    go_loop [3, 8] (fun u i => ∃ k : Nat, k ≤ 8 ∧ i = .int .i64 k ∧ u = .int .u64 (getN (zs.take k))) (fun _ i => 8 - (intOf i).toNat)
    case atStart => exact ⟨0, Nat.zero_le _, rfl, rfl⟩
    case round =>
      obtain ⟨k, hk, rfl, rfl⟩ := hrel
      by_cases hlt : k < 8
      · obtain ⟨z, hcell, hb, HT⟩ := elem_oct HC.out HZ.out k (by omega)
        have HS : Hid (bits .or .u64 (getN (zs.take k)) (IntKind.u64.wrap (z * 2 ^ (8 * k))) = getN (zs.take (k + 1))) := by
          have hl : (zs.take k).length = k := by rw [List.length_take]; omega
          have := get_step (zs.take k) z (by omega) (fun z h => HZ.out z (List.mem_of_mem_take h)) hb.1 hb.2
          rw [hl] at this
          unfold Hid
          rw [this, HT.out]
        go_wp2
        go_round
        case rel => exact ⟨k + 1, by omega, by go_num, by rw [← HS.out]⟩
        case measure => simp [intOf]; omega
      · obtain rfl : k = 8 := by omega
        go_wp2
        go_ret
        exact ⟨rfl, rfl⟩
  · have h8' : ¬ (8 : Int) < zs.length := by omega
    have HM : Hid (zs.take 8 = zs) := List.take_of_length_le (by omega)
    go_enter Tryd.func33, Tryd.ntmps33
    go_wp2
    go_loop [3, 8] (fun u i => ∃ k : Nat, k ≤ zs.length ∧ i = .int .i64 k ∧ u = .int .u64 (getN (zs.take k))) (fun _ i => zs.length - (intOf i).toNat)
    case atStart => exact ⟨0, Nat.zero_le _, rfl, rfl⟩
    case round =>
      obtain ⟨k, hk, rfl, rfl⟩ := hrel
      by_cases hlt : k < zs.length
      · obtain ⟨z, hcell, hb, HT⟩ := elem_oct HC.out HZ.out k (by omega)
        have HS : Hid (bits .or .u64 (getN (zs.take k)) (IntKind.u64.wrap (z * 2 ^ (8 * k))) = getN (zs.take (k + 1))) := by
          have hl : (zs.take k).length = k := by rw [List.length_take]; omega
          have := get_step (zs.take k) z (by omega) (fun z h => HZ.out z (List.mem_of_mem_take h)) hb.1 hb.2
          rw [hl] at this
          unfold Hid
          rw [this, HT.out]
        go_wp2
        go_round
        case rel => exact ⟨k + 1, by omega, by go_num, by rw [← HS.out]⟩
        case measure => simp [intOf]; omega
      · obtain rfl : k = zs.length := by omega
        go_wp2
        go_ret
        exact ⟨ret_int (by rw [getI, HM.out]), rfl⟩

theorem get_empty (a : Option Addr) (cap : Nat) (w : World) :
    Calls Tryd.prog 33 #[.slice a 0 cap] w fun e w' => e = .returned (.int .i64 (getI [])) ∧ w' = w := by
  go_enter Tryd.func33, Tryd.ntmps33
  go_wp2
  refine wp_loop_rounds 1 ?_
  rw [rounds_succ]
  go_wp2
  go_ret
  exact ⟨ret_int (by decide +kernel), rfl⟩
end Go.Proofs.YtfclhehpbniapaaDoor
