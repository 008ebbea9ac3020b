/- Slices of ints, and the contract of 'marks'. -/
import Derived.Test.YtjjodmppneonjaaWalkFlush
namespace Go.Proofs.Ytjjodmppneonjaa
open Go.RowKit
set_option linter.unusedVariables false

/-- The value is a slice whose elements are these ints. -/
def Ints (w : World) (v : Value) (zs : List Int) : Prop :=
  zs.length ≤ maxLen ∧ ∃ a cap, v = .slice a zs.length cap ∧ (zs = [] ∨ ∃ b off, a = some ⟨b, off, none⟩ ∧ b < w.heap.size ∧ ∀ j, j < zs.length → w.cell? ⟨b, off + j, none⟩ = some (.int .i64 (zs[j]?.getD 0)))
theorem Ints.nil (w : World) : Ints w (.slice none 0 0) [] := ⟨by simp, none, 0, rfl, .inl rfl⟩
theorem Ints.kept {w w' : World} {v : Value} {zs : List Int} (h : Ints w v zs) (hb : Below w.heap.size w w') : Ints w' v zs := by
  obtain ⟨h1, a, cap, rfl, h2⟩ := h
  refine ⟨h1, a, cap, rfl, ?_⟩
  rcases h2 with h2 | ⟨b, off, rfl, hlt, hc⟩
  · exact .inl h2
  · exact .inr ⟨b, off, rfl, Nat.lt_of_lt_of_le hlt hb.size, fun j hj => (hb.cell (p := ⟨b, off + j, none⟩) hlt).trans (hc j hj)⟩

def markA (zs : List Int) (n : Nat) : Array Value := ((List.range n).map fun (i : Nat) => Value.bool (decide ((i : Int) ∈ zs))).toArray
theorem markA_size (zs : List Int) (n : Nat) : (markA zs n).size = n := by simp [markA]
theorem markA_get (zs : List Int) (n i : Nat) (h : i < n) : (markA zs n)[i]? = some (.bool (decide ((i : Int) ∈ zs))) := by simp [markA, h]
theorem markA_nil (n : Nat) : markA [] n = madeCells #[.bool false] n := by
  apply Array.ext
  · simp [markA, size_madeCells]
  · intro i h1 h2
    simp [markA, madeCells, Nat.mod_one]
theorem markA_in (ys : List Int) (n z : Nat) (h : z < n) : (markA ys n).setIfInBounds z (.bool true) = markA (ys ++ [(z : Int)]) n := by
  apply Array.ext
  · simp [markA]
  · intro i h1 h2
    simp only [Array.size_setIfInBounds, markA_size] at h1
    rw [Array.getElem_setIfInBounds (by simpa [markA_size] using h1)]
    simp only [markA, List.getElem_toArray, List.getElem_map, List.getElem_range, List.mem_append, List.mem_singleton]
    by_cases e : z = i
    · subst e; simp
    · have : ¬ (i : Int) = (z : Int) := by omega
      simp [e, this]
theorem markA_out (ys : List Int) (n : Nat) (z : Int) (h : z < 0 ∨ (n : Int) ≤ z) : markA (ys ++ [z]) n = markA ys n := by
  apply Array.ext
  · simp [markA]
  · intro i h1 h2
    rw [markA_size] at h1
    have : ¬ (i : Int) = z := by omega
    simp [markA, this]

theorem Try.infoBool : (Try.prog.info? 4).map (fun i => (i.zero, i.size, i.bytes)) = some (some (.bool false), 1, 1) := by kernel_rfl

set_option maxHeartbeats 1000000 in
theorem marks_v (w : World) (v : Value) (zs : List Int) (n : Nat) (hv : Ints w v zs) (hn : n ≤ 1000000000) :
    Calls Try.prog 23 #[v, .int .i64 (n : Nat)] w fun e w' => e = .returned (.slice (some ⟨w.heap.size, 0, none⟩) n n) ∧ w' = w.alloc (.cells (markA zs n) 4) := by
  obtain ⟨i0, hi, hz0, hz1, hz2⟩ := info_parts Try.infoBool
  obtain ⟨hlen, a, cap, rfl, hcells⟩ := hv
  have HC : Hid (zs = [] ∨ ∃ b off, a = some ⟨b, off, none⟩ ∧ b < w.heap.size ∧ ∀ j, j < zs.length → w.cell? ⟨b, off + j, none⟩ = some (.int .i64 (zs[j]?.getD 0))) := hcells
  obtain ⟨m, hm⟩ : ∃ m, m = zs.length := ⟨_, rfl⟩
  have HM : Hid (m = zs.length) := hm
  rw [← hm] at hlen
  have hm63 : m ≤ 9223372036854775807 := by unfold maxLen at hlen; omega
  rw [← hm]
  clear hcells hm hlen
  go_enter Try.func23, Try.ntmps23
  go_wp2_with (at_make; refine wpList_make_exact _ rfl _ _ 61 rfl 4 i0 _ Try.underlying61 hi hz0 hz1 .i64 .i64 n rfl rfl ?c1 ?c2 ?_)
  case c1 => rw [hz2]; omega
  case c2 => unfold maxLen; omega
  go_wp2_with fail
  go_loopw [12] (fun i wr => ∃ k : Nat, k ≤ m ∧ i = .int .i64 k ∧ wr = w.alloc (.cells (markA (zs.take k) n) 4)) (fun i _ => m - (intOf i).toNat)
  case atStart => exact ⟨0, by omega, rfl, by rw [List.take_zero, markA_nil]⟩
  case round =>
    obtain ⟨k, hk, rfl, rfl⟩ := hrel
    by_cases hlt : k < m
    · have hkz : k < zs.length := by rw [← HM.out]; exact hlt
      rcases HC.out with h0 | ⟨b, off, rfl, hbl, hc⟩
      · rw [h0] at hkz; simp at hkz
      · obtain ⟨z, hz⟩ : ∃ z, zs[k]? = some z := ⟨_, List.getElem?_eq_getElem hkz⟩
        have hck : (w.alloc (.cells (markA (zs.take k) n) 4)).cell? ⟨b, off + k, none⟩ = some (.int .i64 z) := by
          rw [World.cell?_alloc_lt _ _ _ hbl, hc k hkz, hz]; rfl
        have HT : Hid (zs.take (k + 1) = zs.take k ++ [z]) := by rw [List.take_add_one, hz]; rfl
        clear hc hz
        by_cases hz1 : z < 0
        · have HE : Hid (markA (zs.take (k + 1)) n = markA (zs.take k) n) := by rw [HT.out]; exact markA_out _ _ _ (.inl hz1)
          go_wp2
          go_roundw
          case rel => exact ⟨k + 1, by omega, by simp, by rw [HE.out]⟩
          case measure => simp [intOf]; omega
        · by_cases hz2 : (n : Int) ≤ z
          · have HE : Hid (markA (zs.take (k + 1)) n = markA (zs.take k) n) := by rw [HT.out]; exact markA_out _ _ _ (.inr hz2)
            go_wp2
            go_roundw
            case rel => exact ⟨k + 1, by omega, by simp, by rw [HE.out]⟩
            case measure => simp [intOf]; omega
          · obtain ⟨y, rfl⟩ := Int.eq_ofNat_of_zero_le (show 0 ≤ z by omega)
            have hy : y < n := by omega
            have HE : Hid ((markA (zs.take k) n).setIfInBounds y (.bool true) = markA (zs.take (k + 1)) n) := by rw [HT.out]; exact markA_in _ _ _ hy
            have hget := markA_get (zs.take k) n y hy
            have hsize := markA_size (zs.take k) n
            clear hz1 hz2
            go_wp2
            go_roundw
            case rel => exact ⟨k + 1, by omega, by simp, by rw [HE.out]⟩
            case measure => simp [intOf]; omega
    · obtain rfl : k = m := by omega
      go_wp2
      go_ret
      exact ⟨rfl, by rw [HM.out, List.take_length]⟩
end Go.Proofs.Ytjjodmppneonjaa
