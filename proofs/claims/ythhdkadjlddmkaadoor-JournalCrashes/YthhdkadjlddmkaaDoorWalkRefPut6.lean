/- The document's Right and Put of a part: their contracts. -/
import Derived.Test.YthhdkadjlddmkaaDoorCut6
import Derived.Test.YthhdkadjlddmkaaDoorStrOct
import Derived.Deep.RegionHeld3
namespace Go.Proofs.YthhdkadjlddmkaaDoor
open Go.RowKit
set_option linter.unusedVariables false

abbrev pval (p : Part) (v : Value) : Value := .agg #[.bool p.foot, .int .i64 p.epoch, .int .i64 p.number, .int .i64 p.index, v]
def PartAt (w : World) (b : Nat) (p : Part) (v : Value) : Prop := w.heap[b]? = some (.cells #[.bool p.foot, .int .i64 p.epoch, .int .i64 p.number, .int .i64 p.index, v] 81 (0, 0))
theorem PartAt.cells {w : World} {b : Nat} {p : Part} {v : Value} (h : PartAt w b p v) : w.cell? ⟨b, 0, none⟩ = some (.bool p.foot) ∧ w.cell? ⟨b, 1, none⟩ = some (.int .i64 p.epoch) ∧ w.cell? ⟨b, 2, none⟩ = some (.int .i64 p.number) ∧ w.cell? ⟨b, 3, none⟩ = some (.int .i64 p.index) ∧ w.cell? ⟨b, 4, none⟩ = some v := by
  refine ⟨?_, ?_, ?_, ?_, ?_⟩ <;> (rw [cell_of_row _ _ _ _ _ _ h]; rfl)
theorem PartAt.lt {w : World} {b : Nat} {p : Part} {v : Value} (h : PartAt w b p v) : b < w.heap.size := lt_of_heap h
theorem PartAt.same {w w' : World} {b B : Nat} {p : Part} {v : Value} (h : PartAt w b p v) (hb : Below B w w') (hB : b < B) : PartAt w' b p v := (hb.block b hB).trans h

theorem okP_no {p : Part} (h : ¬ p.Right) : okP p = false := by rw [Bool.eq_false_iff]; exact fun e => h (okP_right.1 e)
set_option maxHeartbeats 400000 in
theorem refSectors6 (n : Int) (w : World) (h1 : -9223372036854775808 ≤ n) (h2 : n ≤ 9223372036854775807) : Calls Tryd.prog 21 #[.int .i64 n] w fun e w' => e = .returned (.int .i64 (sectorsN n)) ∧ w' = w := by
  by_cases ha : n < 1
  · have HS : Hid (sectorsN n = 0) := if_neg (by omega)
    go_enter Tryd.func21, Tryd.ntmps21
    go_wp2
    go_ret
    rw [HS.out]
    exact ⟨rfl, rfl⟩
  · by_cases hb : 65000 < n
    · have HS : Hid (sectorsN n = 0) := if_neg (by omega)
      go_enter Tryd.func21, Tryd.ntmps21
      go_wp2
      go_ret
      rw [HS.out]
      exact ⟨rfl, rfl⟩
    · have HS : Hid (sectorsN n = (n + 111) / 112 + 1) := if_pos (by omega)
      go_enter Tryd.func21, Tryd.ntmps21
      go_wp2
      go_loopw [0, 3] (fun m k wr => ∃ (x : Int) (y : Int), m = .int .i64 x ∧ k = .int .i64 y ∧ -112 < x ∧ x ≤ 65000 ∧ 1 ≤ y ∧ y ≤ 1000 ∧ (0 < x → y + (x + 111) / 112 = (n + 111) / 112 + 1) ∧ (x ≤ 0 → y = (n + 111) / 112 + 1) ∧ wr = w) (fun m _ _ => (intOf m + 200).toNat)
      case atStart => exact ⟨n, 1, rfl, rfl, by omega, by omega, by omega, by omega, by omega, by omega, rfl⟩
      case round =>
        obtain ⟨x, y, rfl, rfl, q1, q2, q3, q4, q5, q6, rfl⟩ := hrel
        by_cases hx : 0 < x
        · have Q5 : Hid (y + (x + 111) / 112 = (n + 111) / 112 + 1) := q5 hx
          clear q5 q6
          have e1 : IntKind.i64.wrap (x - 112) = x - 112 := by rw [IntKind.wrap_i64]; omega
          have e2 : IntKind.i64.wrap (y + 1) = y + 1 := by rw [IntKind.wrap_i64]; omega
          have hn7 : n ≤ 65000 := by omega
          go_wp2
          go_roundw
          case rel => exact ⟨x - 112, y + 1, rfl, rfl, by omega, by omega, by omega, by have := Q5.out; omega, by have := Q5.out; omega, by have := Q5.out; omega, by simp⟩
          case measure => simp [intOf]; omega
        · have Q6 : Hid (y = (n + 111) / 112 + 1) := q6 (by omega)
          clear q5 q6
          go_wp2
          go_ret
          rw [HS.out, ← Q6.out]
          exact ⟨rfl, rfl⟩
end Go.Proofs.YthhdkadjlddmkaaDoor
