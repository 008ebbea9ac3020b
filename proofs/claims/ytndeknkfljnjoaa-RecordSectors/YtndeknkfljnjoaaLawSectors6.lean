/- The law RecordSectors, walked, over the contract of the program's Sectors; the document's Sectors. (For a seat that holds nothing else of the layer.) -/
import Derived.Test.YtndeknkfljnjoaaProg
import Derived.Test.YtndeknkfljnjoaaOpens
import Derived.Test.YtndeknkfljnjoaaMath
import Derived.Test.YtndeknkfljnjoaaTools
import Derived.WalkKit
import Derived.Below
namespace Go.Proofs.Ytndeknkfljnjoaa
open Go.RowKit
set_option linter.unusedVariables false

def sectI (n : Int) : Int := if 1 ≤ n ∧ n ≤ 65000 then (n + 111) / 112 + 1 else 0
def SectorsOk : Prop := ∀ (n : Int) (w : World), -9223372036854775808 ≤ n → n ≤ 9223372036854775807 → Calls Try.prog 5 #[.int .i64 n] w fun x w' => x = .returned (.int .i64 (sectI n)) ∧ Below w.heap.size w w'

set_option maxHeartbeats 400000 in
theorem refSectI (n : Int) (w : World) (h1 : -9223372036854775808 ≤ n) (h2 : n ≤ 9223372036854775807) : Calls Try.prog 6 #[.int .i64 n] w fun e w' => e = .returned (.int .i64 (sectI n)) ∧ w' = w := by
  by_cases ha : n < 1
  · have HS : Hid (sectI n = 0) := if_neg (by omega)
    go_enter Try.func6, Try.ntmps6
    go_wp2
    go_ret
    rw [HS.out]
    exact ⟨rfl, rfl⟩
  · by_cases hb : 65000 < n
    · have HS : Hid (sectI n = 0) := if_neg (by omega)
      go_enter Try.func6, Try.ntmps6
      go_wp2
      go_ret
      rw [HS.out]
      exact ⟨rfl, rfl⟩
    · have HS : Hid (sectI n = (n + 111) / 112 + 1) := if_pos (by omega)
      go_enter Try.func6, Try.ntmps6
      go_wp2
      go_loopw [0, 3] (fun m k wr => ∃ (x : Int) (y : Int), m = .int .i64 x ∧ k = .int .i64 y ∧ -112 < x ∧ x ≤ 65000 ∧ 1 ≤ y ∧ y ≤ 1000 ∧ (0 < x → y + (x + 111) / 112 = (n + 111) / 112 + 1) ∧ (x ≤ 0 → y = (n + 111) / 112 + 1) ∧ wr = w) (fun m _ _ => (intOf m + 200).toNat)
      case atStart => exact ⟨n, 1, rfl, rfl, by omega, by omega, by omega, by omega, by omega, by omega, rfl⟩
      case round =>
        obtain ⟨x, y, rfl, rfl, q1, q2, q3, q4, q5, q6, rfl⟩ := hrel
        by_cases hx : 0 < x
        · have Q5 : Hid (y + (x + 111) / 112 = (n + 111) / 112 + 1) := q5 hx
          clear q5 q6
          have e1 : IntKind.i64.wrap (x - 112) = x - 112 := by rw [IntKind.wrap_i64]; omega
          have e2 : IntKind.i64.wrap (y + 1) = y + 1 := by rw [IntKind.wrap_i64]; omega
          have hn7 : n ≤ 65000 := by omega
          go_wp2
          go_roundw
          case rel => exact ⟨x - 112, y + 1, rfl, rfl, by omega, by omega, by omega, by have := Q5.out; omega, by have := Q5.out; omega, by have := Q5.out; omega, by simp⟩
          case measure => simp [intOf]; omega
        · have Q6 : Hid (y = (n + 111) / 112 + 1) := q6 (by omega)
          clear q5 q6
          go_wp2
          go_ret
          rw [HS.out, ← Q6.out]
          exact ⟨rfl, rfl⟩

theorem awakeI (R : SectorsOk) (w : World) : Calls Try.prog 4 #[] w fun e w' => e = .returned (.bool true) ∧ Below w.heap.size w w' := by
  have HR : Hid SectorsOk := R
  clear R
  have s1 : sectI 112 = 2 := by decide +kernel
  have s2 : sectI 113 = 3 := by decide +kernel
  go_enter Try.func4, Try.ntmps4
  go_wp2_with fail
  refine (HR.out 112 w (by decide) (by decide)).mono ?_
  rintro e w1 ⟨rfl, hb1⟩
  rw [s1]
  have HB1 : Hid (Below w.heap.size w w1) := hb1
  clear hb1
  go_wp2_with fail
  refine (HR.out 113 w1 (by decide) (by decide)).mono ?_
  rintro e w2 ⟨rfl, hb2⟩
  rw [s2]
  have HB2 : Hid (Below w.heap.size w w2) := HB1.out.trans (hb2.mono HB1.out.size)
  clear hb2
  go_wp2
  go_ret
  exact ⟨rfl, HB2.out⟩
theorem sect_rise (n : Int) (h1 : 1 ≤ n) (h2 : n < 65000) : sectI n ≤ sectI (n + 1) ∧ sectI (n + 1) ≤ sectI n + 1 ∧ 0 ≤ sectI n ∧ sectI n ≤ 1000 := by
  unfold sectI
  rw [if_pos (by omega), if_pos (by omega)]
  omega

set_option maxHeartbeats 400000 in
theorem recordSectors_of (R : SectorsOk) (n : Int) (w : World) (f0 : (Lit.int .i64 n).wf = true) : Calls Try.prog 3 #[.int .i64 n] w fun x w' => x = .returned (.bool true) ∧ Below w.heap.size w w' := by
  have hn : -9223372036854775808 ≤ n ∧ n ≤ 9223372036854775807 := by simpa [Lit.wf, IntKind.min, IntKind.max, IntKind.signed, IntKind.bits] using f0
  have HR : Hid SectorsOk := R
  have HN : Hid (-9223372036854775808 ≤ n ∧ n ≤ 9223372036854775807) := hn
  have HRF : Hid (∀ w, Calls Try.prog 6 #[.int .i64 n] w fun e w' => e = .returned (.int .i64 (sectI n)) ∧ w' = w) := fun w => refSectI n w hn.1 hn.2
  have HPF : Hid (∀ w, Calls Try.prog 5 #[.int .i64 n] w fun x w' => x = .returned (.int .i64 (sectI n)) ∧ Below w.heap.size w w') := fun w => R n w hn.1 hn.2
  by_cases ha : n < 1
  · clear R f0 hn
    generalize sectI n = S at *
    go_enter Try.func3, Try.ntmps3
    go_wp2_with fail
    refine (awakeI HR.out _).mono ?_
    rintro x w1 ⟨rfl, hb1⟩
    have HB1 : Hid (Below w.heap.size w w1) := hb1
    clear hb1
    go_wp2_with fail
    refine (HPF.out w1).mono ?_
    rintro x w2 ⟨rfl, hb2⟩
    have HB2 : Hid (Below w.heap.size w w2) := HB1.out.trans (hb2.mono HB1.out.size)
    clear hb2
    go_wp2_with fail
    refine (HRF.out w2).mono ?_
    rintro x w3 ⟨rfl, rfl⟩
    go_wp2
    go_ret
    exact ⟨rfl, HB2.out⟩
  · by_cases hb : 65000 ≤ n
    · clear R f0 hn
      generalize sectI n = S at *
      go_enter Try.func3, Try.ntmps3
      go_wp2_with fail
      refine (awakeI HR.out _).mono ?_
      rintro x w1 ⟨rfl, hb1⟩
      have HB1 : Hid (Below w.heap.size w w1) := hb1
      clear hb1
      go_wp2_with fail
      refine (HPF.out w1).mono ?_
      rintro x w2 ⟨rfl, hb2⟩
      have HB2 : Hid (Below w.heap.size w w2) := HB1.out.trans (hb2.mono HB1.out.size)
      clear hb2
      go_wp2_with fail
      refine (HRF.out w2).mono ?_
      rintro x w3 ⟨rfl, rfl⟩
      go_wp2
      go_ret
      exact ⟨rfl, HB2.out⟩
    · have hr := sect_rise n (by omega) (by omega)
      have HPG : Hid (∀ w, Calls Try.prog 5 #[.int .i64 (n + 1)] w fun x w' => x = .returned (.int .i64 (sectI (n + 1))) ∧ Below w.heap.size w w') := fun w => R (n + 1) w (by omega) (by omega)
      have hw : IntKind.i64.wrap (n + 1) = n + 1 := by rw [IntKind.wrap_i64]; omega
      clear R f0 hn
      generalize sectI n = S at *
      generalize sectI (n + 1) = S1 at *
      have r1 : S ≤ S1 := hr.1
      have r2 : S1 ≤ S + 1 := hr.2.1
      have hw2 : IntKind.i64.wrap (S + 1) = S + 1 := by rw [IntKind.wrap_i64]; omega
      clear hr
      go_enter Try.func3, Try.ntmps3
      go_wp2_with fail
      refine (awakeI HR.out _).mono ?_
      rintro x w1 ⟨rfl, hb1⟩
      have HB1 : Hid (Below w.heap.size w w1) := hb1
      clear hb1
      go_wp2_with fail
      refine (HPF.out w1).mono ?_
      rintro x w2 ⟨rfl, hb2⟩
      have HB2 : Hid (Below w.heap.size w w2) := HB1.out.trans (hb2.mono HB1.out.size)
      clear hb2
      go_wp2_with fail
      refine (HRF.out w2).mono ?_
      rintro x w3 ⟨rfl, rfl⟩
      go_wp2_with fail
      refine (HPG.out _).mono ?_
      rintro x w4 ⟨rfl, hb4⟩
      have HB4 : Hid (Below w.heap.size w w4) := HB2.out.trans (hb4.mono HB2.out.size)
      clear hb4
      go_wp2_with fail
      refine (HPG.out _).mono ?_
      rintro x w5 ⟨rfl, hb5⟩
      have HB5 : Hid (Below w.heap.size w w5) := HB4.out.trans (hb5.mono HB4.out.size)
      clear hb5
      go_wp2
      go_ret
      exact ⟨rfl, HB5.out⟩
end Go.Proofs.Ytndeknkfljnjoaa
