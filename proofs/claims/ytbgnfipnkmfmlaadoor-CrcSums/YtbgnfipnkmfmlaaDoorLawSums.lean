/- The walk of the law 'CrcSums': it returns true for every input, where the program's table lies as it was laid. -/
import Derived.Test.YtbgnfipnkmfmlaaDoorOpenRows
import Derived.Test.YtbgnfipnkmfmlaaDoorWalkRef2
namespace Go.Proofs.YtbgnfipnkmfmlaaDoor
open Go.RowKit
set_option linter.unusedVariables false

theorem flat_le (zss : List (List Nat)) (h : ∀ zs ∈ zss, zs.length ≤ 300) : zss.flatten.length ≤ 300 * zss.length := by
  induction zss with
  | nil => simp
  | cons z r ih =>
    have h1 := h z (by simp)
    have h2 := ih fun s hs => h s (by simp [hs])
    simp only [List.flatten_cons, List.length_append, List.length_cons]
    omega

set_option maxHeartbeats 1000000 in
theorem sums_main (a : Option Addr) (n ca : Nat) (zss : List (List Nat)) (w : World) (ha : OctRows w (.slice a n ca) zss) (hl : zss.length = n) (ht : Steps w) (hn : n ≤ 10) :
    Calls Tryd.prog 3 #[.slice a n ca] w fun e w' => e = .returned (.bool true) ∧ Below w.heap.size w w' := by
  have HA : Hid (OctRows w (.slice a n ca) zss) := ha
  have HT : Hid (Steps w) := ht
  have HL : Hid (zss.length = n) := hl
  clear ha ht hl
  go_enter Tryd.func3, Tryd.ntmps3
  go_wp2_with fail
  refine (awake_any _ HT.out).mono ?_
  rintro e w1 ⟨rfl, hb1⟩
  have HB1 : Hid (Below w.heap.size w w1) := hb1
  have HA1 : Hid (OctRows w1 (.slice a n ca) zss) := HA.out.kept hb1
  have HT1 : Hid (Steps w1) := HT.out.below hb1
  clear hb1
  go_wp2_with fail
  refine (sum_empty _ _ _).mono ?_
  rintro e w2 ⟨rfl, rfl⟩
  go_wp2_with fail
  go_loop [3, 4] (fun r i => ∃ k : Nat, k ≤ n ∧ i = .int .i64 k ∧ r = .int .u32 (crcSum (zss.take k).flatten : Nat) ∧ ∀ zs ∈ zss.take k, zs.length ≤ 300) (fun _ i => n - (intOf i).toNat)
  case atStart => exact ⟨0, Nat.zero_le _, rfl, by rw [show crcSum (zss.take 0).flatten = 0 from crcAdd_nil 0]; rfl, by simp⟩
  case round =>
    obtain ⟨k, hk, rfl, rfl, hs⟩ := hrel
    have HS : Hid (∀ zs ∈ zss.take k, zs.length ≤ 300) := hs
    clear hs
    by_cases hlt : k < n
    · obtain ⟨hl0, a', cap', e, h0⟩ := HA1.out
      rcases h0 with h0 | ⟨b, off, h0, hbl, hrow⟩
      · exfalso
        have := HL.out
        rw [h0] at this
        simp at this
        omega
      · simp only [Value.slice.injEq] at e
        obtain ⟨rfl, hne, rfl⟩ := e
        clear hne
        subst h0
        obtain ⟨v, hcell, hv⟩ := hrow k (by rw [HL.out]; exact hlt)
        have hkl : k < zss.length := by rw [HL.out]; exact hlt
        have HTK : Hid (zss.take (k + 1) = zss.take k ++ [zss[k]?.getD []]) := by
          unfold Hid; rw [List.take_add_one, List.getElem?_eq_getElem hkl]; rfl
        have hr : crcSum (zss.take k).flatten < 4294967296 := by
          refine crcAdd_flat_lt _ 0 (fun zs h => ?_) (by decide)
          obtain ⟨j, hj, rfl⟩ := List.getElem_of_mem (List.mem_of_mem_take h)
          obtain ⟨u, _, hu⟩ := hrow j hj
          rw [List.getElem?_eq_getElem hj] at hu
          exact hu.small
        have HV' : Hid (Octs w2 v (zss[k]?.getD [])) := hv
        have HSM : Hid (crcSum (zss.take (k + 1)).flatten = crcAdd (crcSum (zss.take k).flatten) (zss[k]?.getD [])) := by
          unfold Hid
          rw [HTK.out, List.flatten_append]
          simp [crcSum, crcAdd_append]
        have HSK : Hid ((zss[k]?.getD []).length ≤ 300 → ∀ zs ∈ zss.take (k + 1), zs.length ≤ 300) := by
          intro h zs hz
          rw [HTK.out] at hz
          rcases List.mem_append.1 hz with hz | hz
          · exact HS.out zs hz
          · simp at hz; subst hz; exact h
        clear hv hrow hkl hl0
        generalize crcSum (zss.take k).flatten = r at *
        generalize zss[k]?.getD [] = zs at *
        obtain ⟨a9, c9, rfl⟩ := HV'.out.shape
        by_cases hbig : 300 < zs.length
        · have hbig' : (300 : Int) < (zs.length : Int) := by omega
          go_wp2
          go_ret
          exact ⟨rfl, HB1.out⟩
        · have hbig' : ¬ (300 : Int) < (zs.length : Int) := by omega
          go_wp2_with fail
          refine (add_octs r _ zs _ hr HV'.out HT1.out).mono ?_
          rintro e w' ⟨rfl, rfl⟩
          go_wp2
          go_round
          case rel => exact ⟨k + 1, by omega, by go_num, by rw [HSM.out], HSK.out (by omega)⟩
          case measure => simp [intOf]; omega
    · obtain rfl : k = n := by omega
      have HTL : Hid (zss.take k = zss) := by unfold Hid; rw [← HL.out, List.take_length]
      rw [HTL.out]
      have HFL : Hid (zss.flatten.length ≤ 100000) := by
        have h := flat_le zss (by rw [← HTL.out]; exact HS.out)
        unfold Hid
        rw [HL.out] at h
        omega
      go_wp2_with fail
      refine (refAll_rows _ zss _ HA1.out HFL.out).mono ?_
      rintro e w3 ⟨v3, rfl, ho3, hb3⟩
      have HO3 : Hid (Octs w3 v3 zss.flatten) := ho3
      have HB3 : Hid (Below w.heap.size w w3) := HB1.out.trans (hb3.mono HB1.out.size)
      have HA3 : Hid (OctRows w3 (.slice a k ca) zss) := HA1.out.kept hb3
      have HT3 : Hid (Steps w3) := HT1.out.below hb3
      clear ho3 hb3
      go_wp2_with fail
      refine (refSum_octs _ zss.flatten _ HO3.out).mono ?_
      rintro e w4 ⟨rfl, rfl⟩
      go_wp2_with fail
      refine (sum_rows _ zss _ HA3.out HT3.out).mono ?_
      rintro e w5 ⟨rfl, rfl⟩
      go_wp2
      go_ret
      exact ⟨rfl, HB3.out⟩

theorem crcSums_walk (a0 : Option Addr) (len0 cap0 : Nat) (A0 : Nat → Option Addr) (L0 C0 : Nat → Nat) (Z0 : Nat → List Int) (w : World) (ht : Steps w) (f0 : IsRows .u8 w a0 len0 cap0 A0 L0 C0 Z0) :
    Calls Tryd.prog 3 #[.slice a0 len0 cap0] w fun e w' => e = .returned (.bool true) ∧ Below w.heap.size w w' := by
  have h0 := OctRows.ofRows f0
  have l0 : len0 ≤ 9223372036854775807 := by have := h0.1; simpa using this
  have HT : Hid (Steps w) := ht
  clear f0
  by_cases hn : len0 ≤ 10
  · exact sums_main a0 len0 cap0 _ w h0 (by simp) ht hn
  · clear h0 ht
    have hn' : (10 : Int) < len0 := by omega
    go_enter Tryd.func3, Tryd.ntmps3
    go_wp2_with fail
    refine (awake_any _ HT.out).mono ?_
    rintro e w1 ⟨rfl, hb1⟩
    have HB1 : Hid (Below w.heap.size w w1) := hb1
    clear hb1
    go_wp2_with fail
    refine (awake_any _ (HT.out.below HB1.out)).mono ?_
    rintro e w2 ⟨rfl, hb2⟩
    go_wp2
    go_ret
    exact ⟨rfl, HB1.out.trans (hb2.mono HB1.out.size)⟩
end Go.Proofs.YtbgnfipnkmfmlaaDoor
