/- The example of the laws of layer 4 ('awake'). -/
import Derived.Test.YtclondljjfljpaaFields4
namespace Go.Proofs.Ytclondljjfljpaa
open Go.RowKit
set_option linter.unusedVariables false

/-- One field in a block of its own. -/
theorem flds_one (w : World) (f : Fld) (hok : f.Ok) : Flds (w.alloc (.cells #[.int .i64 f.kind, .int .i64 f.n, .int .i64 f.size, .string f.s] 31)) (.slice (some ⟨w.heap.size, 0, none⟩) 1 1) [f] := by
  refine ⟨by simp [maxLen], by simpa using hok, _, 1, rfl, .inr ⟨_, 0, rfl, by simp, fun k g hk => ?_⟩⟩
  match k, hk with
  | 0, hk =>
    obtain rfl : f = g := by simpa using hk
    refine ⟨?_, ?_, ?_, ?_⟩ <;> rw [cell_of_row _ _ _ _ _ _ (heap_alloc_new w _)] <;> rfl
def exF : List Fld := [⟨0, 258, 2, ByteArray.empty⟩, ⟨2, 0, 0, ⟨#[97, 98]⟩⟩, ⟨1, -3, 0, ByteArray.empty⟩]
theorem flds_ex (w : World) : Flds (w.alloc (.cells #[.int .i64 0, .int .i64 258, .int .i64 2, .string ByteArray.empty, .int .i64 2, .int .i64 0, .int .i64 0, .string ⟨#[97, 98]⟩, .int .i64 1, .int .i64 (-3), .int .i64 0, .string ByteArray.empty] 31)) (.slice (some ⟨w.heap.size, 0, none⟩) 3 3) exF := by
  refine ⟨by simp [maxLen, exF], ?_, _, 3, rfl, .inr ⟨_, 0, rfl, by simp, fun k g hk => ?_⟩⟩
  · intro f hf
    simp only [exF, List.mem_cons, List.not_mem_nil, or_false] at hf
    rcases hf with rfl | rfl | rfl <;> exact ⟨by decide, by decide⟩
  · match k, hk with
    | 0, hk =>
      obtain rfl := Option.some.inj hk
      refine ⟨?_, ?_, ?_, ?_⟩ <;> rw [cell_of_row _ _ _ _ _ _ (heap_alloc_new w _)] <;> rfl
    | 1, hk =>
      obtain rfl := Option.some.inj hk
      refine ⟨?_, ?_, ?_, ?_⟩ <;> rw [cell_of_row _ _ _ _ _ _ (heap_alloc_new w _)] <;> rfl
    | 2, hk =>
      obtain rfl := Option.some.inj hk
      refine ⟨?_, ?_, ?_, ?_⟩ <;> rw [cell_of_row _ _ _ _ _ _ (heap_alloc_new w _)] <;> rfl
theorem encs_ex : encs exF = [2, 1, 2, 0, 97, 98, 5] := by
  have e1 : enc ⟨0, 258, 2, ByteArray.empty⟩ = [2, 1] := by decide +kernel
  have e2 : enc ⟨2, 0, 0, ⟨#[97, 98]⟩⟩ = [2, 0, 97, 98] := by decide +kernel
  have e3 : enc ⟨1, -3, 0, ByteArray.empty⟩ = [5] := by
    show varN (zigI (-3)).toNat = [5]
    rw [show (zigI (-3)).toNat = 5 by decide, varN_small (by decide)]
  simp only [encs, exF, List.flatMap_cons, List.flatMap_nil, e1, e2, e3]
  rfl

set_option maxHeartbeats 800000 in
set_option maxRecDepth 20000 in
theorem awake4 (w : World) : Calls Try.prog 7 #[] w fun e w' => e = .returned (.bool true) ∧ Below w.heap.size w w' := by
  go_enter Try.func7, Try.ntmps7
  go_wp2_with fail
  refine (write_new w).mono ?_
  rintro e w1 ⟨rfl, hw1, hb1⟩
  have HB1 : Hid (Below w.heap.size w w1) := hb1
  clear hw1 hb1
  go_wp2_with fail
  refine (read_octs _ [] w1 ⟨by simp, by simp, none, 0, rfl, by simp, by simp, .inl ⟨rfl, rfl⟩⟩ (by simp)).mono ?_
  rintro e w2 ⟨p, rfl, hr2, hb2, hp2⟩
  have HB2 : Hid (Below w.heap.size w w2) := HB1.out.trans (hb2.mono HB1.out.size)
  clear hr2 hb2 hp2
  go_wp2_with fail
  refine (puts_any _ exF _ (flds_ex w2) (by decide) (by decide)).mono ?_
  rintro e w3 ⟨v3, rfl, ho3, hb3⟩
  have HB3 : Hid (Below w.heap.size w w3) := (HB2.out.alloc HB2.out.size _).trans (hb3.mono (by simp; have := HB2.out.size; omega))
  rw [encs_ex] at ho3
  have hc := conv_octs (P := Try.prog) ho3 25 5 9 Try.underlying25 Try.underlying5 Try.underlying9
  rw [show strN [2, 1, 2, 0, 97, 98, 5] = ⟨#[2, 1, 2, 0, 97, 98, 5]⟩ by decide +kernel] at hc
  clear hb3 ho3
  go_wp2
  go_ret
  exact ⟨rfl, HB3.out⟩
end Go.Proofs.Ytclondljjfljpaa
