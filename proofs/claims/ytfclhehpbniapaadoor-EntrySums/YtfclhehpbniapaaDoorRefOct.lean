/- The document's numbers in octets, by octets wherever they lie; a string's octets laid anew. -/
import Derived.Test.YtfclhehpbniapaaDoorOctCopy
import Derived.Test.YtfclhehpbniapaaDoorWalkOct
import Derived.Test.YtfclhehpbniapaaDoorWalkRef2
import Derived.Lib.ConvBytes
namespace Go.Proofs.YtfclhehpbniapaaDoor
open Go.RowKit
set_option linter.unusedVariables false

theorem conv_back5 (w : World) (zs : List Nat) (hz : ∀ z ∈ zs, z < 256) (hl : zs.length ≤ 100000) :
    ∃ W1 a cap, (convert 9 24 (.string (strN zs))).run Tryd.prog w = .ok (.slice a zs.length cap) W1 ∧ Octs W1 (.slice a zs.length cap) zs ∧ Below w.heap.size w W1 := by
  have hcv := Lib.run_convert_string_bytes (P := Tryd.prog) w 9 24 5 (strN zs) (u := .string) Tryd.underlying9 Tryd.underlying24 Tryd.underlying5
  have hbw : Below w.heap.size w (Lib.bytesWorld w 5 (strN zs)) := ⟨rfl, rfl, rfl, by rw [Lib.bytesWorld_size]; omega, fun k hk => Lib.bytesWorld_at_old w 5 (strN zs) k hk⟩
  have hge := grownCap_ge w (strN zs).size 0 5
  have hle := grownCap_le_maxLen w (strN zs).size 0 5 (by rw [strN_size]; unfold maxLen; omega)
  rw [strN_size] at hcv hge hle
  refine ⟨_, _, _, hcv, ⟨hz, by unfold maxLen; omega, _, _, rfl, hge, hle, .inr ⟨_, rfl, ?_⟩⟩, hbw⟩
  by_cases h0 : zs.length = 0
  · exact .inl (List.eq_nil_of_length_eq_zero h0)
  · refine .inr ⟨w.heap.size, 0, rfl, ?_, fun j hj => ?_⟩
    · have h6 := Lib.bytesWorld_cell w 5 (strN zs) 0 (by rw [strN_size]; omega)
      exact cell_lt h6
    · have h6 := Lib.bytesWorld_cell w 5 (strN zs) j (by rw [strN_size]; exact hj)
      rw [Nat.zero_add, h6]
      have h7 := octsOf_strN zs hz
      have h8 : (octsOf (strN zs))[j]?.getD 0 = zs[j]?.getD 0 := by rw [h7]
      rw [← h8]
      unfold octsOf
      have hj' : j < (strN zs).data.toList.length := by
        have := octsOf_length (strN zs)
        rw [octsOf, List.length_map, strN_size] at this
        omega
      simp [List.getD, List.getElem?_eq_getElem hj']

/-- The same, by its world's name. -/
theorem conv_back6 (w : World) (zs : List Nat) (hz : ∀ z ∈ zs, z < 256) (hl : zs.length ≤ 100000) :
    (convert 9 24 (.string (strN zs))).run Tryd.prog w = .ok (.slice (some ⟨w.heap.size, 0, none⟩) zs.length (grownCap w zs.length 0 5)) (Lib.bytesWorld w 5 (strN zs)) ∧ Octs (Lib.bytesWorld w 5 (strN zs)) (.slice (some ⟨w.heap.size, 0, none⟩) zs.length (grownCap w zs.length 0 5)) zs ∧ Below w.heap.size w (Lib.bytesWorld w 5 (strN zs)) := by
  have hcv := Lib.run_convert_string_bytes (P := Tryd.prog) w 9 24 5 (strN zs) (u := .string) Tryd.underlying9 Tryd.underlying24 Tryd.underlying5
  have hbw : Below w.heap.size w (Lib.bytesWorld w 5 (strN zs)) := ⟨rfl, rfl, rfl, by rw [Lib.bytesWorld_size]; omega, fun k hk => Lib.bytesWorld_at_old w 5 (strN zs) k hk⟩
  have hge := grownCap_ge w (strN zs).size 0 5
  have hle := grownCap_le_maxLen w (strN zs).size 0 5 (by rw [strN_size]; unfold maxLen; omega)
  rw [strN_size] at hcv hge hle
  refine ⟨hcv, ⟨hz, by unfold maxLen; omega, _, _, rfl, hge, hle, .inr ⟨_, rfl, ?_⟩⟩, hbw⟩
  by_cases h0 : zs.length = 0
  · exact .inl (List.eq_nil_of_length_eq_zero h0)
  · refine .inr ⟨w.heap.size, 0, rfl, ?_, fun j hj => ?_⟩
    · have h6 := Lib.bytesWorld_cell w 5 (strN zs) 0 (by rw [strN_size]; omega)
      exact cell_lt h6
    · have h6 := Lib.bytesWorld_cell w 5 (strN zs) j (by rw [strN_size]; exact hj)
      rw [Nat.zero_add, h6]
      have h7 := octsOf_strN zs hz
      have h8 : (octsOf (strN zs))[j]?.getD 0 = zs[j]?.getD 0 := by rw [h7]
      rw [← h8]
      unfold octsOf
      have hj' : j < (strN zs).data.toList.length := by
        have := octsOf_length (strN zs)
        rw [octsOf, List.length_map, strN_size] at this
        omega
      simp [List.getD, List.getElem?_eq_getElem hj']

theorem refLay_octs5 (n m : Int) (w : World) :
    Calls Tryd.prog 16 #[.int .i64 n, .int .i64 m] w fun e w' => ∃ v, e = .returned v ∧ Octs w' v (octZ n (cl m 8)) ∧ (convert 24 9 v).run Tryd.prog w' = .ok (.string (strN (octZ n (cl m 8)))) w' ∧ Below w.heap.size w w' := by
  refine (refLay_any n m w).mono ?_
  rintro e w' ⟨v, rfl, ho, hb⟩
  rw [octZ_cells] at ho
  have hO := Octs.owned ho (octZ_small _ _)
  exact ⟨v, rfl, hO, conv_octs (P := Tryd.prog) hO _ _ _ Tryd.underlying24 Tryd.underlying5 Tryd.underlying9, hb⟩
end Go.Proofs.YtfclhehpbniapaaDoor
