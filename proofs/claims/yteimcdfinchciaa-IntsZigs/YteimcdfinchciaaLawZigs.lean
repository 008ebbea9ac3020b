/- The walk of the law 'IntsZigs': it returns true for every input. -/
import Derived.Test.YteimcdfinchciaaLawUps
namespace Go.Proofs.Yteimcdfinchciaa
open Go.RowKit
set_option linter.unusedVariables false

theorem intsZigs_walk (n m u : Int) (w0 : (Lit.int .i64 n).wf = true) (w1 : (Lit.int .i64 m).wf = true) (w2 : (Lit.int .u64 u).wf = true) (w : World) :
    Calls Try.prog 5 #[.int .i64 n, .int .i64 m, .int .u64 u] w fun e w' => e = .returned (.bool true) ∧ Below w.heap.size w w' := by
  obtain ⟨n1, n2⟩ := bd_i64 w0
  obtain ⟨m1, m2⟩ := bd_i64 w1
  obtain ⟨u1, u2⟩ := bd_u64 w2
  have HZ : Hid (zagI (zigI n) = n) := zag_zig n
  have HU : Hid (zigI (zagI u) = u) := zig_zag u u1
  obtain ⟨z1, z2⟩ := zig_bd n n1 n2
  obtain ⟨a1, a2⟩ := zag_bd u u1 u2
  have HL : Hid (0 ≤ n → 0 ≤ m → (decide (n < m) == decide (zigI n < zigI m)) = true) := zig_lt n m
  clear w0 w1 w2
  go_enter Try.func5, Try.ntmps5
  go_wp2_with fail
  refine (awake_any _).mono ?_
  rintro e w1 ⟨rfl, hb1⟩
  go_wp2_with fail
  refine (zig_any n _ n1 n2).mono ?_
  rintro e w2 ⟨rfl, rfl⟩
  go_wp2_with fail
  refine (refZig_any n _ n1 n2).mono ?_
  rintro e w3 ⟨rfl, rfl⟩
  go_wp2_with fail
  refine (zig_any n _ n1 n2).mono ?_
  rintro e w3 ⟨rfl, rfl⟩
  go_wp2_with fail
  refine (zag_any (zigI n) _ z1 z2).mono ?_
  rintro e w3 ⟨rfl, rfl⟩
  rw [HZ.out]
  go_wp2_with fail
  refine (zag_any u _ u1 u2).mono ?_
  rintro e w3 ⟨rfl, rfl⟩
  go_wp2_with fail
  refine (zig_any (zagI u) _ a1 a2).mono ?_
  rintro e w3 ⟨rfl, rfl⟩
  rw [HU.out]
  by_cases hn : n < 0
  · go_wp2
    go_ret
    exact ⟨rfl, hb1⟩
  · by_cases hm : m < 0
    · go_wp2
      go_ret
      exact ⟨rfl, hb1⟩
    · have hl := HL.out (by omega) (by omega)
      go_wp2_with fail
      refine (zig_any n _ n1 n2).mono ?_
      rintro e w3 ⟨rfl, rfl⟩
      go_wp2_with fail
      refine (zig_any m _ m1 m2).mono ?_
      rintro e w3 ⟨rfl, rfl⟩
      generalize zigI n = x at *
      generalize zigI m = y at *
      go_wp2
      go_ret
      exact ⟨rfl, hb1⟩
end Go.Proofs.Yteimcdfinchciaa
