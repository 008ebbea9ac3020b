/- The walk of the law 'IntsTurns': it returns true for every input. -/
import Derived.Test.YteimcdfinchciaaLawUps
import Derived.Test.YteimcdfinchciaaOpens
namespace Go.Proofs.Yteimcdfinchciaa
open Go.RowKit
set_option linter.unusedVariables false

theorem turnBy_mod (u x y : Int) : turnBy u (x.tmod 32 + y) = turnBy u (x + y) := by
  unfold turnBy
  have := tmod32 x
  congr 2; omega
theorem turn_law1 (u x y : Int) (h0 : 0 ≤ u) (h1 : u ≤ 4294967295) : turnBy (turnBy u (x.tmod 32)) (y.tmod 32) = turnBy u (x.tmod 32 + y.tmod 32) := turnBy_turnBy u _ _ h0 h1
theorem turn_law2 (u x : Int) (h0 : 0 ≤ u) (h1 : u ≤ 4294967295) : turnBy (turnBy u (x.tmod 32)) (-x.tmod 32) = u := turnBy_back u _ h0 h1
theorem tmod_bd (x : Int) : -32 ≤ x.tmod 32 ∧ x.tmod 32 ≤ 31 := by
  have h := tmod32 x
  have h2 : 0 ≤ x % 32 ∧ x % 32 < 32 := by omega
  generalize x.tmod 32 = t at *
  omega

set_option maxHeartbeats 400000 in
theorem intsTurns_core (u x y v : Int) (w0 : (Lit.int .u32 u).wf = true) (w1 : (Lit.int .i64 x).wf = true) (w1' : (Lit.int .i64 y).wf = true) (w2 : (Lit.int .u64 v).wf = true) (w : World) :
    Calls Try.prog 6 #[.int .u32 u, .agg #[.int .i64 x, .int .i64 y], .int .u64 v] w fun e w' => e = .returned (.bool true) ∧ Below w.heap.size w w' := by
  obtain ⟨u1, u2⟩ := bd_u32 w0
  obtain ⟨x1, x2⟩ := bd_i64 w1
  obtain ⟨y1, y2⟩ := bd_i64 w1'
  obtain ⟨v1, v2⟩ := bd_u64 w2
  obtain ⟨a1, a2⟩ := turnBy_bd u (x.tmod 32) u1 u2
  have H1 : Hid (turnBy (turnBy u (x.tmod 32)) (y.tmod 32) = turnBy u (x.tmod 32 + y.tmod 32)) := turn_law1 u x y u1 u2
  have H2 : Hid (turnBy (turnBy u (x.tmod 32)) (-x.tmod 32) = u) := turn_law2 u x u1 u2
  obtain ⟨bx1, bx2⟩ := tmod_bd x
  obtain ⟨b1, b2⟩ := tmod_bd y
  clear w0 w1 w1' w2
  go_enter Try.func6, Try.ntmps6
  go_wp2_with fail
  refine (awake_any _).mono ?_
  rintro e wa ⟨rfl, hb1⟩
  have hsz : w.heap.size < wa.heap.size := by have := hb1.size; simp at this; omega
  have hc0 : wa.cell? ⟨w.heap.size, 0, none⟩ = some (.int .i64 x) := by
    rw [hb1.cell (p := ⟨w.heap.size, 0, none⟩) (by simp)]; simp
  have hc1 : wa.cell? ⟨w.heap.size, 1, none⟩ = some (.int .i64 y) := by
    rw [hb1.cell (p := ⟨w.heap.size, 1, none⟩) (by simp)]; simp
  have HB : Hid (Below w.heap.size w wa) := ((Below.refl _ _).alloc (Nat.le_refl _) _).trans (hb1.mono (by simp))
  clear hb1
  go_wp2_with fail
  refine (turn_any u x _ u1 u2).mono ?_
  rintro e w2 ⟨rfl, rfl⟩
  go_wp2_with fail
  refine (refTurn_any u x _ u1 u2 x1 x2).mono ?_
  rintro e w3 ⟨rfl, rfl⟩
  go_wp2_with fail
  refine (log_any v _ v1 v2).mono ?_
  rintro e w3 ⟨rfl, rfl⟩
  go_wp2_with fail
  refine (refLog_any v _ v1 v2).mono ?_
  rintro e w3 ⟨rfl, rfl⟩
  go_wp2_with fail
  go_region
  go_wp2_with fail
  refine (turn_any u (x.tmod 32) _ u1 u2).mono ?_
  rintro e w4 ⟨rfl, rfl⟩
  go_wp2_with fail
  refine (turn_any (turnBy u (x.tmod 32)) (y.tmod 32) _ a1 a2).mono ?_
  rintro e w4 ⟨rfl, rfl⟩
  rw [H1.out]
  go_wp2_with fail
  refine (turn_any u (x.tmod 32 + y.tmod 32) _ u1 u2).mono ?_
  rintro e w4 ⟨rfl, rfl⟩
  go_wp2_with fail
  refine (turn_any u (x.tmod 32) _ u1 u2).mono ?_
  rintro e w4 ⟨rfl, rfl⟩
  go_wp2_with fail
  refine (turn_any (turnBy u (x.tmod 32)) (-x.tmod 32) _ a1 a2).mono ?_
  rintro e w4 ⟨rfl, rfl⟩
  rw [H2.out]
  go_wp2
  go_ret
  exact ⟨rfl, HB.out.drew⟩

theorem intsTurns_walk (u : Int) (z : List Int) (v : Int) (w : World) (w0 : (Lit.int .u32 u).wf = true) (g : z.length = 2) (f : ∀ x ∈ z, (Lit.int .i64 x).wf = true) (w2 : (Lit.int .u64 v).wf = true) :
    Calls Try.prog 6 #[.int .u32 u, .agg (z.map (Value.int .i64)).toArray, .int .u64 v] w fun e w' => e = .returned (.bool true) ∧ Below w.heap.size w w' := by
  obtain ⟨x, y, rfl⟩ := list2 g
  exact intsTurns_core u x y v w0 (f x (by simp)) (f y (by simp)) w2 w
end Go.Proofs.Yteimcdfinchciaa
