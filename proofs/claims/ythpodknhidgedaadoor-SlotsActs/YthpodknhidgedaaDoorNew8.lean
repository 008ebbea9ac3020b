/- How a row comes about: 'New', 'Load'; 'Words'. -/
import Derived.Test.YthpodknhidgedaaDoorRow8
import Derived.Test.YthpodknhidgedaaDoorWds8
import Derived.Test.YthpodknhidgedaaDoorWalkUp
import Derived.Deep.DeepMust
namespace Go.Proofs.YthpodknhidgedaaDoor
open Go.RowKit
set_option linter.unusedVariables false

theorem Tryd.infoU64 : (Tryd.prog.info? 68).map (fun i => (i.zero, i.size, i.bytes)) = some (some (.int .u64 0), 1, 8) := by kernel_rfl
theorem Tryd.sizeU64 : (Tryd.prog.info? 68).map (·.size) = some 1 := by kernel_rfl
/-- No bit. -/
def noneB : Nat → Bool := fun _ => false
theorem num_none (o : Nat) : ∀ k, num noneB o k = 0
  | 0 => rfl
  | k + 1 => by rw [num, num_none o k]; simp [noneB]
theorem made_none (m : Nat) : madeCells #[Value.int .u64 0] m = (wordL noneB m).toArray := by
  apply Array.ext'
  simp only [madeCells, wordL, num_none]
  apply List.ext_getElem?
  intro i
  by_cases h : i < m
  · simp [h, Nat.mod_one]
  · simp [h]
/-- The words of B, as numbers. -/
def wordN (B : Nat → Bool) (m : Nat) : List Nat := (List.range m).map fun j => num B (64 * j) 64
theorem wordL_wds (B : Nat → Bool) (m : Nat) : wordL B m = wds (wordN B m) := by simp [wordL, wds, wordN, Function.comp_def]
theorem wordN_length (B : Nat → Bool) (m : Nat) : (wordN B m).length = m := by simp [wordN]
theorem wordN_small (B : Nat → Bool) (m : Nat) : ∀ z ∈ wordN B m, z < 18446744073709551616 := by
  intro z hz
  simp only [wordN, List.mem_map] at hz
  obtain ⟨j, _, rfl⟩ := hz
  exact num_lt64 _ _
theorem up_wn (n : Nat) (h : n ≤ 65536) : upI (n : Nat) 64 = ((64 * wn n : Nat) : Int) := by
  unfold upI wn
  by_cases h1 : ((n : Nat) : Int) < 1
  · rw [if_pos (Or.inl h1)]; omega
  · rw [if_neg (by omega)]
    by_cases h2 : 0 < ((n : Nat) : Int) % 64
    · rw [if_pos h2, if_neg (by omega)]; omega
    · rw [if_neg h2, if_neg (by omega)]; omega

theorem new_ok (w : World) (n : Nat) (hn : n ≤ 65536) (h0 : 0 < w.heap.size) :
    Calls Tryd.prog 23 #[.int .i64 (n : Nat)] w fun x w' => ∃ p b, x = .returned (.tuple #[.pointer (some ⟨p, 0, none⟩), .int .i64 0]) ∧ w.heap.size ≤ p ∧ w.heap.size ≤ b ∧ RowAt w' p b n noneB ∧ Below w.heap.size w w' := by
  obtain ⟨i0, hi, hz0, hz1, hz2⟩ := info_parts Tryd.infoU64
  have E : Hid (upI (n : Nat) 64 = ((64 * wn n : Nat) : Int)) := up_wn n hn
  have hw := wn_le n hn
  go_enter Tryd.func23, Tryd.ntmps23
  go_wp2_with fail
  refine (up_any _ _ _ (by omega) (by omega) (by omega) (by omega)).mono ?_
  rintro e w' ⟨rfl, rfl⟩
  rw [E.out]
  have hq : ((64 * wn n : Nat) : Int).tdiv 64 = (wn n : Nat) := by rw [Int.natCast_mul]; exact Int.mul_tdiv_cancel_left _ (by decide)
  have HM : Hid (∀ W : World, RowAt ((W.alloc (.cells (wordL noneB (wn n)).toArray 68)).alloc (.cells #[.int .i64 (n : Nat), .slice (some ⟨W.heap.size, 0, none⟩) (wn n) (wn n)] 67)) (W.heap.size + 1) W.heap.size n noneB) := fun W => by
    refine ⟨?_, ?_, hn, fun _ _ => rfl⟩
    · have := heap_alloc_new (W.alloc (.cells (wordL noneB (wn n)).toArray 68)) (.cells #[.int .i64 (n : Nat), .slice (some ⟨W.heap.size, 0, none⟩) (wn n) (wn n)] 67)
      simpa using this
    · have h1 := heap_alloc_new W (.cells (wordL noneB (wn n)).toArray 68)
      have h2 := ((Below.refl (W.heap.size + 1) (W.alloc (.cells (wordL noneB (wn n)).toArray 68))).alloc (by simp) (.cells #[.int .i64 (n : Nat), .slice (some ⟨W.heap.size, 0, none⟩) (wn n) (wn n)] 67)).block W.heap.size (by omega)
      exact h2.trans h1
  generalize hm : wn n = m at *
  go_wp2_with (at_make; refine wpList_make_exact _ rfl _ _ 64 rfl 68 i0 _ Tryd.underlying64 hi hz0 hz1 .i64 .i64 m rfl rfl ?c1 ?c2 ?_)
  case c1 => rw [hz2]; omega
  case c2 => unfold maxLen; omega
  go_wp2
  go_ret2
  rw [made_none]
  exact ⟨_, _, rfl, by omega, Nat.le_refl _, HM.out _, ((Below.refl _ _).alloc (Nat.le_refl _) _).alloc (by simp) _⟩
theorem new_no (w : World) (n : Int) (h1 : -9223372036854775808 ≤ n) (h2 : n ≤ 9223372036854775807) (hn : n < 0 ∨ 65536 < n) :
    Calls Tryd.prog 23 #[.int .i64 n] w fun x w' => x = .returned (.tuple #[.pointer none, .int .i64 2]) ∧ w' = w := by
  by_cases h : n < 0
  · go_enter Tryd.func23, Tryd.ntmps23
    go_wp2
    go_ret2
    exact ⟨rfl, rfl⟩
  · have h3 : 65536 < n := by omega
    go_enter Tryd.func23, Tryd.ntmps23
    go_wp2
    go_ret2
    exact ⟨rfl, rfl⟩

end Go.Proofs.YthpodknhidgedaaDoor
