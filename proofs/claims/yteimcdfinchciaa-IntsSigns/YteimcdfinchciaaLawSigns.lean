/- The walk of the law 'IntsSigns': it returns true for every input. -/
import Derived.Test.YteimcdfinchciaaLawUps
import Derived.Test.YteimcdfinchciaaWalkBits
namespace Go.Proofs.Yteimcdfinchciaa
open Go.RowKit
set_option linter.unusedVariables false

theorem intsSigns_walk (n b : Int) (w0 : (Lit.int .i64 n).wf = true) (w1 : (Lit.int .i64 b).wf = true) (w : World) :
    Calls Try.prog 4 #[.int .i64 n, .int .i64 b] w fun e w' => e = .returned (.bool true) ∧ Below w.heap.size w w' := by
  have HS : Hid (sgnI (sgnI n (cl b 64)) (cl b 64) = sgnI n (cl b 64)) := sgn_sgn _ _
  have HL : Hid (lowI (sgnI n (cl b 64)) (cl b 64) = lowI n (cl b 64)) := low_sgn _ _
  clear w0 w1
  go_enter Try.func4, Try.ntmps4
  go_wp2_with fail
  refine (awake_any _).mono ?_
  rintro e w1 ⟨rfl, hb1⟩
  go_wp2_with fail
  refine (signed_any n b _).mono ?_
  rintro e w2 ⟨rfl, rfl⟩
  go_wp2_with fail
  refine (low_any n b _).mono ?_
  rintro e w2 ⟨rfl, rfl⟩
  go_wp2_with fail
  refine (refLow_any n b _).mono ?_
  rintro e w3 ⟨rfl, hb2⟩
  go_wp2_with fail
  refine (refSigned_any n b _).mono ?_
  rintro e w4 ⟨rfl, hb3⟩
  go_wp2_with fail
  refine (short_any n b _).mono ?_
  rintro e w5 ⟨rfl, rfl⟩
  have HB : Hid (Below w.heap.size w w5) := hb1.trans ((hb2.mono hb1.size).trans (hb3.mono (Nat.le_trans hb1.size hb2.size)))
  clear hb1 hb2 hb3
  go_wp2_with fail
  refine (signed_any (sgnI n (cl b 64)) b _).mono ?_
  rintro e w6 ⟨rfl, rfl⟩
  rw [HS.out]
  go_wp2_with fail
  refine (low_any (sgnI n (cl b 64)) b _).mono ?_
  rintro e w7 ⟨rfl, rfl⟩
  rw [HL.out]
  go_wp2_with fail
  refine (low_any n b _).mono ?_
  rintro e w8 ⟨rfl, rfl⟩
  go_wp2
  go_ret
  exact ⟨rfl, HB.out⟩
end Go.Proofs.Yteimcdfinchciaa
