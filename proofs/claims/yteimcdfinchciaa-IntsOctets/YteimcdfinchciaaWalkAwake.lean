/- Contract of the laws' first lines: the document's examples hold. -/
import Derived.Test.YteimcdfinchciaaWalkLay
import Derived.Test.YteimcdfinchciaaWalkNum
import Derived.Test.YteimcdfinchciaaWalkUp
namespace Go.Proofs.Yteimcdfinchciaa
open Go.RowKit
set_option linter.unusedVariables false

theorem lay_258 (w : World) : Calls Try.prog 10 #[.int .i64 258, .int .i64 4] w fun e w' =>
    e = .returned (.slice (some ⟨w.heap.size, 0, none⟩) 4 4) ∧ w' = w.alloc (.cells #[.int .u8 2, .int .u8 1, .int .u8 0, .int .u8 0] 5) := by
  refine (lay_any 258 4 w).mono ?_
  rintro e w' ⟨rfl, rfl⟩
  have e1 : cl 4 8 = 4 := by decide
  have e2 : octL 258 4 = [2, 1, 0, 0] := by decide
  rw [e1, e2]
  exact ⟨rfl, rfl⟩
theorem signed_255 (w : World) : Calls Try.prog 15 #[.int .i64 255, .int .i64 8] w fun e w' => e = .returned (.int .i64 (-1)) ∧ w' = w := by
  refine (signed_any 255 8 w).mono ?_
  rintro e w' ⟨rfl, rfl⟩
  have e1 : sgnI 255 (cl 8 64) = -1 := by decide
  rw [e1]
  exact ⟨rfl, rfl⟩
theorem zig_m3 (w : World) : Calls Try.prog 19 #[.int .i64 (-3)] w fun e w' => e = .returned (.int .u64 5) ∧ w' = w := by
  refine (zig_any (-3) w (by decide) (by decide)).mono ?_
  rintro e w' ⟨rfl, rfl⟩
  exact ⟨rfl, rfl⟩
theorem up_17 (w : World) : Calls Try.prog 26 #[.int .i64 17, .int .i64 8] w fun e w' => e = .returned (.int .i64 24) ∧ w' = w := by
  refine (up_any 17 8 w (by decide) (by decide) (by decide) (by decide)).mono ?_
  rintro e w' ⟨rfl, rfl⟩
  have e1 : upI 17 8 = 24 := by decide
  rw [e1]
  exact ⟨rfl, rfl⟩

theorem conv_258 (w : World) : (convert 22 9 (.slice (some ⟨w.heap.size, 0, none⟩) 4 4)).run Try.prog (w.alloc (.cells #[.int .u8 2, .int .u8 1, .int .u8 0, .int .u8 0] 5)) =
    .ok (.string ⟨#[2, 1, 0, 0]⟩) (w.alloc (.cells #[.int .u8 2, .int .u8 1, .int .u8 0, .int .u8 0] 5)) := by
  refine run_convert_bytes_arg (P := Try.prog) _ 22 5 Try.underlying22 Try.underlying5 w.heap.size 0 4 4 [2, 1, 0, 0] rfl ?_ 9 Try.underlying9
  intro i hi
  rw [World.cell?_alloc_at _ _ _ _ rfl]
  match i, hi with
  | 0, _ => rfl
  | 1, _ => rfl
  | 2, _ => rfl
  | 3, _ => rfl

theorem awake_any (w : World) : Calls Try.prog 9 #[] w fun e w' => e = .returned (.bool true) ∧ Below w.heap.size w w' := by
  have hconv := conv_258 w
  go_enter Try.func9, Try.ntmps9
  go_wp2_with fail
  refine (lay_258 _).mono ?_
  rintro e w' ⟨rfl, rfl⟩
  go_wp2_with fail
  refine (signed_255 _).mono ?_
  rintro e w' ⟨rfl, rfl⟩
  go_wp2_with fail
  refine (zig_m3 _).mono ?_
  rintro e w' ⟨rfl, rfl⟩
  go_wp2_with fail
  refine (up_17 _).mono ?_
  rintro e w' ⟨rfl, rfl⟩
  go_wp2
  go_ret
  exact ⟨rfl, (Below.refl _ _).alloc (Nat.le_refl _) _⟩
end Go.Proofs.Yteimcdfinchciaa
