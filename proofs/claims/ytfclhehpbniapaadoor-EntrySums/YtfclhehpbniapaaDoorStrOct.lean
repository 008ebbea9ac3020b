/- Strings of octets: pieces of them, held against each other, laid anew; a row of noughts made. -/
import Derived.Test.YtfclhehpbniapaaDoorRefOct
namespace Go.Proofs.YtfclhehpbniapaaDoor
open Go.RowKit
set_option linter.unusedVariables false

theorem strN_cut (zs : List Nat) (a b : Nat) : (strN zs).extract a b = strN ((zs.drop a).take (b - a)) := by
  apply ByteArray.ext
  rw [ByteArray.data_extract]
  simp [strN, strOfNums, List.map_take, List.map_drop]
theorem back_at (zs : List Nat) (n : Nat) (hn : zs.length = n) (hz : ∀ z ∈ zs, z < 256) (hl : n ≤ 100000) (W : World) (m : Nat) (hm : W.heap.size = m) :
    (convert 9 24 (.string (strN zs))).run Tryd.prog W = .ok (.slice (some ⟨m, 0, none⟩) n (grownCap W n 0 5)) (Lib.bytesWorld W 5 (strN zs)) ∧ Octs (Lib.bytesWorld W 5 (strN zs)) (.slice (some ⟨m, 0, none⟩) n (grownCap W n 0 5)) zs ∧ Below W.heap.size W (Lib.bytesWorld W 5 (strN zs)) := by
  subst hm; subst hn
  exact conv_back6 W zs hz hl
theorem str_eqv (a b : List Nat) (ha : ∀ z ∈ a, z < 256) (hb : ∀ z ∈ b, z < 256) : ((strN a).toList == (strN b).toList) = decide (a = b) := by
  by_cases h : a = b
  · subst h; simp
  · rw [decide_eq_false h]
    apply beq_false_of_ne
    intro e
    refine h (strN_inj ha hb ?_)
    simp only [ByteArray.toList_eq] at e
    exact ByteArray.ext (Array.toList_inj.1 e)
theorem made_u8 (n : Nat) : madeCells (Value.int .u8 0).cells n = (u8s (zl n)).toArray := by
  rw [← rep_u8s]
  apply Array.ext
  · simp [madeCells]
  · intro i h1 h2
    simp [madeCells, Value.cells, Nat.mod_one]
theorem Tryd.make5 (n : Nat) (hn : n ≤ 1000) (W : World) : (Instr.makeSlice 24 (.int .i64 (n : Nat)) (.int .i64 (n : Nat))).run Tryd.prog W = .ok (.slice (some ⟨W.heap.size, 0, none⟩) n n) (W.alloc (.cells (u8s (zl n)).toArray 5)) := by
  obtain ⟨i0, hi, hz0, hz1, hz2⟩ := info_parts Tryd.infoU8'
  have := run_make (P := Tryd.prog) W 24 5 i0 _ Tryd.underlying24 hi hz0 .i64 .i64 (n : Nat) (n : Nat) (by omega) (by omega) (by rw [hz2]; omega) (by omega)
  rw [this, hz1, Nat.mul_one, Int.toNat_natCast, made_u8]

end Go.Proofs.YtfclhehpbniapaaDoor
