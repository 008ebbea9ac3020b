/- The walk of the law 'EntrySums': it returns true for every input, where the program's tables lie as they were laid; over a bundle of contracts. -/
import Derived.Test.YtfclhehpbniapaaDoorBundle11
namespace Go.Proofs.YtfclhehpbniapaaDoor
open Go.RowKit
set_option linter.unusedVariables false

/-- Which octet is turned. -/
theorem turn_at (g : Int) (n : Nat) (h0 : 0 < n) (hn : n ≤ 700) : ∃ i : Nat, i < n ∧ (wrap64 (g.tmod (n : Int) + (n : Int))).tmod (n : Int) = (i : Int) := by
  have hD : (0 : Int) < (n : Int) := by omega
  have h1 := Int.tmod_lt_of_pos g hD
  have h2 := Int.lt_tmod_of_pos g hD
  have hw : wrap64 (g.tmod (n : Int) + (n : Int)) = g.tmod (n : Int) + (n : Int) := by unfold wrap64; omega
  rw [hw]
  have h3 : 0 ≤ g.tmod (n : Int) + (n : Int) := by omega
  have h4 := Int.tmod_nonneg (n : Int) h3
  have h5 := Int.tmod_lt_of_pos (g.tmod (n : Int) + (n : Int)) hD
  obtain ⟨k, hk⟩ := Int.eq_ofNat_of_zero_le h4
  exact ⟨k, by omega, hk⟩
theorem xor_one_ne (z : Nat) : z ^^^ 1 ≠ z := by
  intro h
  have h2 := congrArg (fun n => z ^^^ n) h
  simp only [← Nat.xor_assoc, Nat.xor_self, Nat.zero_xor] at h2
  omega

set_option maxRecDepth 20000 in
set_option maxHeartbeats 2000000 in
theorem sums11_far (E : EntryD) (h p g : Int) (hh : I64 h) (hp : I64 p) (hg : I64 g) (a : Option Addr) (L ca : Nat) (zs : List Nat) (w : World) (ht : Steps w) (hv : Octs w (.slice a L ca) zs) (hlong : 700 < L) :
    Calls Tryd.prog 3 #[.agg #[.int .i64 h, .int .i64 p], .int .i64 g, .slice a L ca] w fun e w' => e = .returned (.bool true) ∧ Below w.heap.size w w' := by
  have HT : Hid (Steps w) := ht
  have hl := hv.lenLe
  clear hv ht
  go_enter Tryd.func3, Tryd.ntmps3
  go_wp2_with fail
  refine (E.awake _ (HT.out.alloc _)).mono ?_
  rintro e w1 ⟨rfl, hb1⟩
  have HB1 : Hid (Below w.heap.size w w1) := ((Below.refl _ _).alloc (Nat.le_refl _) _).trans (hb1.mono (by simp))
  clear hb1
  go_wp2_with fail
  refine (E.awake _ (HT.out.below HB1.out)).mono ?_
  rintro e w2 ⟨rfl, hb2⟩
  have HB2 : Hid (Below w.heap.size w w2) := HB1.out.trans (hb2.mono HB1.out.size)
  clear hb2
  go_wp2
  go_ret
  exact ⟨rfl, HB2.out⟩

set_option maxRecDepth 20000 in
set_option maxHeartbeats 4000000 in
theorem sums11_near (E : EntryD) (h p g : Int) (hh : I64 h) (hp : I64 p) (hg : I64 g) (a : Option Addr) (L ca : Nat) (zs : List Nat) (w : World) (ht : Steps w) (hv : Octs w (.slice a L ca) zs) (hlong : L ≤ 700) :
    Calls Tryd.prog 3 #[.agg #[.int .i64 h, .int .i64 p], .int .i64 g, .slice a L ca] w fun e w' => e = .returned (.bool true) ∧ Below w.heap.size w w' := by
  obtain ⟨i0, hi, hz0, hz1, hz2⟩ := info_parts Tryd.infoU8'
  have HN : Hid (zs.length = L) := hv.lenEq
  have HZ : Hid (∀ z ∈ zs, z < 256) := hv.small
  have HT : Hid (Steps w) := ht
  have HV : Hid (Octs w (.slice a L ca) zs) := hv
  have HG : Hid (I64 h ∧ I64 p ∧ I64 g) := ⟨hh, hp, hg⟩
  clear hv ht hh hp hg
  go_enter Tryd.func3, Tryd.ntmps3
  go_wp2_with fail
  obtain ⟨W0, hW⟩ : ∃ W0, W0 = w.alloc (.cells #[.int .i64 h, .int .i64 p] 23) := ⟨_, rfl⟩
  have d0 : W0.cell? ⟨w.heap.size, 0, none⟩ = some (.int .i64 h) := by rw [hW]; simp
  have d1 : W0.cell? ⟨w.heap.size, 1, none⟩ = some (.int .i64 p) := by rw [hW]; simp
  have HB0 : Hid (Below w.heap.size w W0) := by rw [hW]; exact (Below.refl _ _).alloc (Nat.le_refl _) _
  rw [← hW]
  have HK : Hid (∀ W, Below W0.heap.size W0 W → W.cell? ⟨w.heap.size, 0, none⟩ = some (.int .i64 h) ∧ W.cell? ⟨w.heap.size, 1, none⟩ = some (.int .i64 p)) := fun W hB => ⟨(hB.cell (block_lt_of_cell d0)).trans d0, (hB.cell (block_lt_of_cell d1)).trans d1⟩
  have HVW : Hid (∀ W, Below W0.heap.size W0 W → Octs W (.slice a L ca) zs) := fun W hB => HV.out.kept (HB0.out.trans (hB.mono HB0.out.size))
  have HTW : Hid (∀ W, Below W0.heap.size W0 W → Steps W) := fun W hB => HT.out.below (HB0.out.trans (hB.mono HB0.out.size))
  have HFW : Hid (∀ W, Below W0.heap.size W0 W → Below w.heap.size w W) := fun W hB => HB0.out.trans (hB.mono HB0.out.size)
  clear hW d0 d1 HB0 HV HT
  go_wp2_with fail
  refine (E.awake _ (HTW.out _ (Below.refl _ _))).mono ?_
  rintro e w1 ⟨rfl, hb1⟩
  have HB1 : Hid (Below W0.heap.size W0 w1) := hb1
  obtain ⟨k0, k1⟩ := HK.out w1 hb1
  clear hb1
  go_wp2_with fail
  refine (E.sum _ h p g _ zs HG.out.1 HG.out.2.1 HG.out.2.2 (HTW.out _ HB1.out) (HVW.out _ HB1.out) (by rw [HN.out]; exact hlong)).mono ?_
  rintro e w2 ⟨rfl, hb2⟩
  have HB2 : Hid (Below W0.heap.size W0 w2) := HB1.out.trans (hb2.mono HB1.out.size)
  obtain ⟨m0, m1⟩ := HK.out w2 HB2.out
  clear hb2 k0 k1 HB1
  go_wp2_with fail
  refine (refSum11_any _ h p g _ zs (HVW.out _ HB2.out)).mono ?_
  rintro e w3 ⟨rfl, hb3⟩
  have HB3 : Hid (Below W0.heap.size W0 w3) := HB2.out.trans (hb3.mono HB2.out.size)
  clear hb3 m0 m1 HB2
  have HSL : Hid (sum11 (h, p) g zs < 4294967296) := sum11_lt HZ.out
  by_cases h0 : L = 0
  · subst h0
    go_wp2
    go_ret
    exact ⟨rfl, HFW.out _ HB3.out⟩
  · have HS3 : Hid (W0.heap.size ≤ w3.heap.size) := HB3.out.size
    have hn0 : ((L : Int) == 0) = false := by simp; omega
    have hn1 : ¬ (L : Int) = 0 := by omega
    obtain ⟨i, hi1, hi2⟩ := turn_at g L (by omega) hlong
    have HTN : Hid (∀ y, y < 256 → y ≠ zs[i]?.getD 0 → (sum11 (h, p) g (zs.set i y) = sum11 (h, p) g zs ↔ 512 ≤ i)) := fun y hy hne => sum11_turned HZ.out (by rw [HN.out]; exact hi1) hy (by rw [List.getElem?_eq_getElem (by rw [HN.out]; exact hi1)] at hne; exact hne)
    go_wp2_with (at_builtin; refine wpList_append_octs _ rfl _ _ 24 rfl W0.heap.size 5 i0 Tryd.underlying24 hi hz0 hz1 hz2 _ 0 [] rfl (World.ownsRow_made _ #[] 0 HS3.out (by decide) rfl) _ zs rfl ((HVW.out _ HB3.out).alloc _) ?d1 ?d2 ?_)
    case d1 => rw [HN.out]; omega
    case d2 => exact Nat.le_trans HS3.out (by simp)
    intro v4 w4 hown hgr
    have HB4 : Hid (Below W0.heap.size W0 w4) := (HB3.out.alloc HS3.out _).trans (below_grown (World.ownsRow_made _ #[] 0 HS3.out (by decide) rfl) hgr (Nat.le_trans HS3.out (by simp)))
    have HO4 : Hid (w4.ownsRow W0.heap.size 5 1 v4 L (u8s zs)) := by
      unfold Hid
      rwa [HN.out] at hown
    clear hown hgr HB3 HS3
    obtain ⟨q, cap4, rfl, hq, hcap⟩ := own_form11 HO4.out (by omega)
    have c0 : w4.cell? ⟨q, i, none⟩ = some (.int .u8 (zs[i]?.getD 0 : Nat)) := by
      rw [HO4.out.cellAt i (by omega)]
      have hml : i < zs.length := by rw [HN.out]; exact hi1
      simp [u8s, List.getElem?_eq_getElem hml]
    have f0 := HO4.out.frozenAt i
    have hz8 := getD_small zs HZ.out i
    obtain ⟨z, hz⟩ : ∃ z, zs[i]?.getD 0 = z := ⟨_, rfl⟩
    rw [hz] at c0 hz8 HTN
    obtain ⟨y, hy⟩ : ∃ y, y = z ^^^ 1 := ⟨_, rfl⟩
    have hx : bits .xor .u8 (z : Int) 1 = (y : Int) := by rw [hy]; exact bits_u8 z 1 hz8 (by decide)
    have HNE : Hid (y ≠ z ∧ y < 256) := by rw [hy]; exact ⟨xor_one_ne z, Nat.xor_lt_two_pow (n := 8) hz8 (by decide)⟩
    have HB5 : Hid (Below W0.heap.size W0 (w4.setCell ⟨q, i, none⟩ (.int .u8 (y : Nat)))) := HB4.out.setCell (p := ⟨q, i, none⟩) hq _
    obtain ⟨m0, m1⟩ := HK.out _ HB5.out
    have HO5 : Hid (Octs (w4.setCell ⟨q, i, none⟩ (.int .u8 (y : Nat))) (.slice (some ⟨q, 0, none⟩) L cap4) (zs.set i y)) := by
      have h1 := (HO4.out.stored i (.int .u8 (y : Nat))).1
      rw [u8s_set] at h1
      exact Octs.owned h1 (set_small zs i y HZ.out HNE.out.2)
    clear hz hy hq HB4
    go_wp2_with fail
    refine (E.sum _ h p g _ (zs.set i y) HG.out.1 HG.out.2.1 HG.out.2.2 (HTW.out _ HB5.out) HO5.out (by rw [List.length_set, HN.out]; exact hlong)).mono ?_
    rintro e w6 ⟨rfl, hb6⟩
    have HB6 : Hid (Below w.heap.size w w6) := HFW.out _ (HB5.out.trans (hb6.mono HB5.out.size))
    have HEQ := HTN.out y HNE.out.2 HNE.out.1
    have HSY : Hid (sum11 (h, p) g (zs.set i y) < 4294967296) := sum11_lt (set_small zs i y HZ.out HNE.out.2)
    clear hb6 m0 m1 c0 f0 HO5 HB5 HO4
    by_cases h5 : 512 ≤ i
    · have he := HEQ.2 h5
      have h7 : (512 : Int) ≤ (i : Int) := by omega
      rw [he]
      clear HEQ he
      go_wp2
      go_ret
      exact ⟨rfl, HB6.out⟩
    · have he : ¬ sum11 (h, p) g (zs.set i y) = sum11 (h, p) g zs := fun e => h5 (HEQ.1 e)
      have h7 : ¬ (512 : Int) ≤ (i : Int) := by omega
      have h8 : ((sum11 (h, p) g (zs.set i y) : Int) == (sum11 (h, p) g zs : Int)) = false := by
        apply beq_false_of_ne
        intro e
        exact he (by omega)
      have h9 : ¬ (sum11 (h, p) g (zs.set i y) : Int) = (sum11 (h, p) g zs : Int) := fun e => he (by omega)
      clear HEQ he
      go_wp2
      go_ret
      exact ⟨ret_bool (by simp; omega), HB6.out⟩
theorem entrySums_of (E : EntryD) (y0 : Ky) (a1 : Int) (a2 : Option Addr) (len2 cap2 : Nat) (z2 : List Int) (w : World) (ht : Steps w) (f0 : KI y0) (f1 : (Lit.int .i64 a1).wf = true) (f2 : IsRow .u8 w a2 len2 cap2 z2) :
    Calls Tryd.prog 3 #[.agg #[.int .i64 y0.1, .int .i64 y0.2], .int .i64 a1, .slice a2 len2 cap2] w fun e w' => e = .returned (.bool true) ∧ Below w.heap.size w w' := by
  have h2 := Octs.ofRow f2
  have h1 : I64 a1 := by simpa [Lit.wf, IntKind.min, IntKind.max, IntKind.signed, IntKind.bits, I64] using f1
  rcases Nat.lt_or_ge 700 len2 with h | h
  · exact sums11_far E _ _ _ f0.1 f0.2 h1 _ _ _ _ w ht h2 h
  · exact sums11_near E _ _ _ f0.1 f0.2 h1 _ _ _ _ w ht h2 h
end Go.Proofs.YtfclhehpbniapaaDoor
