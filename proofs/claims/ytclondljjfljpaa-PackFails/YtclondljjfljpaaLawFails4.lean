/- The walk of the law 'PackFails' for every input. -/
import Derived.Test.YtclondljjfljpaaWalkAwake4
namespace Go.Proofs.Ytclondljjfljpaa
open Go.RowKit
set_option linter.unusedVariables false

theorem fnum_any {w : World} {p : Nat} (hR : IsR w p .failed) (size : Int) :
    Calls Try.prog 12 #[.pointer (some ⟨p, 0, none⟩), .int .i64 size] w fun e w' => e = .returned (.int .i64 0) ∧ IsR w' p .failed ∧ Only p w w' := by
  refine (rnum_any hR size).mono ?_
  rintro e w' ⟨rfl, h1, h2⟩
  rw [failed_oct, getO_nil]
  exact ⟨rfl, h1, h2⟩
theorem fsigned_any {w : World} {p : Nat} (hR : IsR w p .failed) (size : Int) :
    Calls Try.prog 21 #[.pointer (some ⟨p, 0, none⟩), .int .i64 size] w fun e w' => e = .returned (.int .i64 0) ∧ IsR w' p .failed ∧ Only p w w' := by
  refine (rsigned_any hR size).mono ?_
  rintro e w' ⟨rfl, h1, h2⟩
  rw [failed_oct, getO_nil, sgnI_zero]
  exact ⟨rfl, h1, h2⟩
theorem fzig_any {w : World} {p : Nat} (hR : IsR w p .failed) :
    Calls Try.prog 14 #[.pointer (some ⟨p, 0, none⟩)] w fun e w' => e = .returned (.int .i64 0) ∧ IsR w' p .failed ∧ Only p w w' := by
  refine (rzig_any hR).mono ?_
  rintro e w' ⟨rfl, h1, h2⟩
  exact ⟨rfl, h1, h2⟩
theorem ftext_any {w : World} {p : Nat} (hR : IsR w p .failed) :
    Calls Try.prog 15 #[.pointer (some ⟨p, 0, none⟩)] w fun e w' => e = .returned (.string ByteArray.empty) ∧ IsR w' p .failed ∧ Only p w w' := by
  refine (rtext_any hR).mono ?_
  rintro e w' ⟨rfl, h1, h2⟩
  exact ⟨rfl, h1, h2⟩
theorem fleft_any {w : World} {p : Nat} (hR : IsR w p .failed) :
    Calls Try.prog 17 #[.pointer (some ⟨p, 0, none⟩)] w fun e w' => e = .returned (.int .i64 0) ∧ w' = w := left_any hR
theorem fdone_any {w : World} {p : Nat} (hR : IsR w p .failed) :
    Calls Try.prog 16 #[.pointer (some ⟨p, 0, none⟩)] w fun e w' => e = .returned (.bool false) ∧ w' = w := done_any hR

theorem octs_three (w : World) : Octs (w.alloc (.cells #[.int .u8 1, .int .u8 2, .int .u8 3] 5)) (.slice (some ⟨w.heap.size, 0, none⟩) 3 3) [1, 2, 3] :=
  octs_new w [1, 2, 3] 5 (by decide) (by decide)
theorem three_off : (RS.mk [1, 2, 3] false).off (cl 4 8) = .failed ∧ getO ((RS.mk [1, 2, 3] false).oct (cl 4 8)) = 0 := by
  rw [show cl 4 8 = 4 by decide]
  exact ⟨rfl, getO_nil⟩

set_option maxHeartbeats 1600000 in
set_option maxRecDepth 20000 in
theorem packFails_walk (a0 : Option Addr) (len0 cap0 : Nat) (c0 : List Fld) (w : World) (f0 : Flds w (.slice a0 len0 cap0) c0) :
    Calls Try.prog 6 #[.slice a0 len0 cap0] w fun e w' => e = .returned (.bool true) ∧ Below w.heap.size w w' := by
  have hl := f0.len
  obtain ⟨a, cap, e⟩ := f0.shape
  simp only [Value.slice.injEq] at e
  obtain ⟨rfl, rfl, rfl⟩ := e
  have H : Hid (Flds w (.slice a0 c0.length cap0) c0) := f0
  clear f0
  by_cases h20 : (20 : Int) < c0.length
  · go_enter Try.func6, Try.ntmps6
    go_wp2_with fail
    refine (awake4 _).mono ?_
    rintro e w1 ⟨rfl, hb1⟩
    have HB1 : Hid (Below w.heap.size w w1) := hb1
    clear hb1
    go_wp2_with fail
    refine (awake4 _).mono ?_
    rintro e w2 ⟨rfl, hb2⟩
    have HB2 : Hid (Below w.heap.size w w2) := HB1.out.trans (hb2.mono HB1.out.size)
    clear hb2
    go_wp2
    go_ret
    exact ⟨rfl, HB2.out⟩
  · go_enter Try.func6, Try.ntmps6
    go_wp2_with fail
    refine (awake4 _).mono ?_
    rintro e w1 ⟨rfl, hb1⟩
    have HB1 : Hid (Below w.heap.size w w1) := hb1
    have hs1 : w.heap.size ≤ w1.heap.size := hb1.size
    clear hb1
    go_wp2_with fail
    refine (read_octs _ [1, 2, 3] _ (octs_three w1) (by decide)).mono ?_
    rintro e w2 ⟨p, rfl, hr2, hb2, hp2⟩
    have HB2 : Hid (Below w.heap.size w w2) := (HB1.out.alloc hs1 _).trans (hb2.mono (by simp; omega))
    have HR2 : Hid (IsR w2 p ⟨[1, 2, 3], false⟩) := hr2
    have hp : w.heap.size ≤ p := by simp at hp2; omega
    clear hr2 hb2 hp2
    go_wp2_with fail
    refine (rnum_any HR2.out 4).mono ?_
    rintro e w3 ⟨rfl, hr3, hk3⟩
    rw [three_off.1] at hr3
    rw [three_off.2]
    have HR3 : Hid (IsR w3 p .failed) := hr3
    have HB3 : Hid (Below w.heap.size w w3) := HB2.out.trans (hk3.below hp HB2.out.size)
    clear hr3 hk3
    go_wp2_with fail
    refine (fdone_any HR3.out).mono ?_
    rintro e w4 ⟨rfl, rfl⟩
    go_wp2_with fail
    go_loopw [4] (fun i wr => ∃ k : Nat, k ≤ c0.length ∧ i = .int .i64 k ∧ Hid (IsR wr p .failed) ∧ Hid (Below w.heap.size w wr)) (fun i _ => c0.length - (intOf i).toNat)
    case atStart => exact ⟨0, Nat.zero_le _, rfl, HR3, HB3⟩
    case round =>
      obtain ⟨k, hk, rfl, HR, HB⟩ := hrel
      by_cases hlt : k < c0.length
      · obtain ⟨b, off, rfl, hbl, hc⟩ := H.out.addr (by omega)
        obtain ⟨f, hf⟩ : ∃ f, c0[k]? = some f := ⟨_, List.getElem?_eq_getElem hlt⟩
        have HC : Hid (∀ w', Below w.heap.size w w' → w'.cell? ⟨b, off + k * 4 + 2, none⟩ = some (.int .i64 f.size)) := fun w' hb => (hb.cell (p := ⟨b, off + k * 4 + 2, none⟩) hbl).trans (hc k f hf).2.2.1
        have d2 := HC.out _ HB.out
        clear hc hf
        generalize f.size = fz at HC d2
        go_wp2_with fail
        refine (fnum_any HR.out fz).mono ?_
        rintro e w5 ⟨rfl, hr5, hk5⟩
        have HR5 : Hid (IsR w5 p .failed) := hr5
        have HB5 : Hid (Below w.heap.size w w5) := HB.out.trans (hk5.below hp HB.out.size)
        have d5 := HC.out _ HB5.out
        clear hr5 hk5 d2
        go_wp2_with fail
        refine (fsigned_any HR5.out fz).mono ?_
        rintro e w6 ⟨rfl, hr6, hk6⟩
        have HR6 : Hid (IsR w6 p .failed) := hr6
        have HB6 : Hid (Below w.heap.size w w6) := HB5.out.trans (hk6.below hp HB5.out.size)
        clear hr6 hk6 d5
        go_wp2_with fail
        refine (fzig_any HR6.out).mono ?_
        rintro e w7 ⟨rfl, hr7, hk7⟩
        have HR7 : Hid (IsR w7 p .failed) := hr7
        have HB7 : Hid (Below w.heap.size w w7) := HB6.out.trans (hk7.below hp HB6.out.size)
        clear hr7 hk7
        go_wp2_with fail
        refine (ftext_any HR7.out).mono ?_
        rintro e w8 ⟨rfl, hr8, hk8⟩
        have HR8 : Hid (IsR w8 p .failed) := hr8
        have HB8 : Hid (Below w.heap.size w w8) := HB7.out.trans (hk8.below hp HB7.out.size)
        clear hr8 hk8
        go_wp2_with fail
        refine (fleft_any HR8.out).mono ?_
        rintro e w9 ⟨rfl, rfl⟩
        go_wp2_with fail
        refine (fdone_any HR8.out).mono ?_
        rintro e w10 ⟨rfl, rfl⟩
        go_wp2
        go_roundw
        case rel => exact ⟨k + 1, by omega, by go_num, HR8, HB8⟩
        case measure => simp [intOf]; omega
      · obtain rfl : k = c0.length := by omega
        go_wp2
        go_ret
        exact ⟨rfl, HB.out⟩
end Go.Proofs.Ytclondljjfljpaa
