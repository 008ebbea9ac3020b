/- The walk of the law 'CrcSeals': it returns true for every input, where the program's table lies as it was laid. -/
import Derived.Test.YtbgnfipnkmfmlaaDoorLawTwice
namespace Go.Proofs.YtbgnfipnkmfmlaaDoor
open Go.RowKit
set_option linter.unusedVariables false

theorem Octs.first {w : World} {b off n cap m : Nat} {zs : List Nat} (h : Octs w (.slice (some ⟨b, off, none⟩) n cap) zs) (hm : m ≤ n) (h0 : 0 < n) : Octs w (.slice (some ⟨b, off, none⟩) m cap) (zs.take m) := by
  have hl := h.lenEq
  obtain ⟨b', off', e, hlt, hc⟩ := h.addr h0
  simp only [Option.some.injEq, Addr.mk.injEq, and_true] at e
  obtain ⟨rfl, rfl⟩ := e
  obtain ⟨h1, h2, a', cap', e, h3, h4, h5⟩ := h
  simp only [Value.slice.injEq] at e
  obtain ⟨_, _, rfl⟩ := e
  have hl' : (zs.take m).length = m := by rw [List.length_take]; omega
  refine ⟨fun z hz => h1 z (List.mem_of_mem_take hz), by omega, _, cap, by rw [hl'], by omega, h4, .inr ⟨_, rfl, .inr ⟨b, off, rfl, hlt, ?_⟩⟩⟩
  intro j hj
  rw [hl'] at hj
  rw [List.getElem?_take_of_lt hj]
  exact hc j (by omega)

set_option maxHeartbeats 2000000 in
theorem seals_few (a : Option Addr) (n ca : Nat) (zs : List Nat) (w : World) (ha : Octs w (.slice a n ca) zs) (ht : Steps w) (hn : n < 4) :
    Calls Tryd.prog 4 #[.slice a n ca] w fun e w' => e = .returned (.bool true) ∧ Below w.heap.size w w' := by
  obtain ⟨i0, hi, hz0, hz1, hz2⟩ := info_parts Tryd.infoU8'
  have HA : Hid (Octs w (.slice a n ca) zs) := ha
  have HT : Hid (Steps w) := ht
  have LA : Hid (zs.length = n) := ha.lenEq
  have SA : Hid (∀ z ∈ zs, z < 256) := ha.small
  have HSB : Hid (sealedB zs = false) := sealedB_short zs (by rw [LA.out]; exact hn)
  clear ha ht
  go_enter Tryd.func4, Tryd.ntmps4
  go_wp2_with fail
  refine (awake_any _ HT.out).mono ?_
  rintro e w1 ⟨rfl, hb1⟩
  have HB1 : Hid (Below w.heap.size w w1) := hb1
  have hsz1 : w.heap.size ≤ w1.heap.size := hb1.size
  clear hb1
  go_wp2_with (at_builtin; refine wpList_append_octs _ rfl _ _ 26 rfl w1.heap.size 5 i0 Tryd.underlying26 hi hz0 hz1 hz2 _ 0 [] rfl (World.ownsRow_made _ #[] 0 (Nat.le_refl _) (by decide) rfl) _ zs rfl ((HA.out.kept HB1.out).alloc _) ?d1 ?d2 ?_)
  case d1 => rw [LA.out]; omega
  case d2 => simp
  intro v2 w2 hown2 hg2
  have HB12 : Hid (Below w1.heap.size w1 w2) := ((Below.refl _ _).alloc (Nat.le_refl _) _).trans (below_grown (World.ownsRow_made _ #[] 0 (Nat.le_refl _) (by decide) rfl) hg2 (by simp))
  have HB2 : Hid (Below w.heap.size w w2) := HB1.out.trans (HB12.out.mono hsz1)
  have HO2' : Hid (Octs w2 v2 zs) := Octs.owned hown2 SA.out
  obtain ⟨a2, cap2, rfl⟩ := HO2'.out.shape
  have HO2 : Hid (Octs w2 (.slice a2 n cap2) zs) := by rw [← LA.out]; exact HO2'.out
  clear hown2 hg2 HO2'
  rw [LA.out]
  go_wp2_with fail
  refine (seal_octs _ zs _ HO2.out (by rw [LA.out]; omega) (HT.out.below HB2.out)).mono ?_
  rintro e w3 ⟨a3, cap3, rfl, ho3, hb3⟩
  rw [LA.out] at ho3 ⊢
  have HP1 : Hid (sealedB (zs ++ octN (crcSum zs)) = true) := sealedB_seal zs SA.out
  have HQ1 : Hid (openL (zs ++ octN (crcSum zs)) = zs) := openL_seal zs SA.out
  have HO3 : Hid (Octs w3 (.slice a3 (n + 4) cap3) (zs ++ octN (crcSum zs))) := ho3
  have HB3 : Hid (Below w.heap.size w w3) := HB2.out.trans (hb3.mono HB2.out.size)
  have HB23 : Hid (Below w2.heap.size w2 w3) := hb3
  have L3 : Hid ((zs ++ octN (crcSum zs)).length = n + 4) := ho3.lenEq
  obtain ⟨ss, HSS⟩ : ∃ ss, Hid (zs ++ octN (crcSum zs) = ss) := ⟨_, rfl⟩
  rw [HSS.out] at HP1 HQ1 HO3 L3
  clear ho3 hb3
  go_wp2_with fail
  refine (open_v _ ss _ HO3.out (by rw [L3.out]; omega) (HT.out.below HB3.out)).mono ?_
  rintro e w4 ⟨a4, n4, cap4, rfl, ho4, hb4⟩
  rw [HP1.out]
  rw [HQ1.out] at ho4
  have HO4 : Hid (Octs w4 (.slice a4 n4 cap4) zs) := ho4
  have HB4 : Hid (Below w.heap.size w w4) := HB3.out.trans (hb4.mono HB3.out.size)
  have HB34 : Hid (Below w3.heap.size w3 w4) := hb4
  clear ho4 hb4
  go_wp2_with fail
  refine (open_v _ zs _ ((HO2.out.kept HB23.out).kept HB34.out) (by rw [LA.out]; omega) (HT.out.below HB4.out)).mono ?_
  rintro e w5 ⟨a5, n5, cap5, rfl, ho5, hb5⟩
  rw [HSB.out]
  have HO5 : Hid (Octs w5 (.slice a5 n5 cap5) (openL zs)) := ho5
  have HB5 : Hid (Below w.heap.size w w5) := HB4.out.trans (hb5.mono HB4.out.size)
  have HA5 : Hid (Octs w5 (.slice a n ca) zs) := HA.out.kept HB5.out
  have HI5 : Hid (Octs w5 (.slice a2 n cap2) zs) := ((HO2.out.kept HB23.out).kept HB34.out).kept hb5
  have HS5 : Hid (Octs w5 (.slice a3 (n + 4) cap3) ss) := (HO3.out.kept HB34.out).kept hb5
  have HX5 : Hid (Octs w5 (.slice a4 n4 cap4) zs) := HO4.out.kept hb5
  clear ho5 hb5
  have hn5 : n5 = 0 := by
    have := HO5.out.lenEq
    rw [openL_no zs HSB.out] at this
    simpa using this.symm
  have hq1 : ¬ (4 : Int) ≤ (n : Int) := by omega
  have hq2 : decide ((4 : Int) ≤ (n : Int)) = false := by simp; omega
  subst hn5
  go_wp2_with fail
  go_region
  all_goals
    go_wp2_with fail
  have HB6 : Hid (Below w5.heap.size w5 w5.drew) := (Below.refl _ _).drew
  have HK : Hid (∀ w', Below w5.heap.size w5 w' → (convert 26 9 (.slice a3 (n + 4) cap3)).run Tryd.prog w' = .ok (.string (strN ss)) w' ∧ (convert 26 9 (.slice a n ca)).run Tryd.prog w' = .ok (.string (strN zs)) w' ∧ (convert 26 9 (.slice a4 n4 cap4)).run Tryd.prog w' = .ok (.string (strN zs)) w' ∧ (convert 26 9 (.slice a2 n cap2)).run Tryd.prog w' = .ok (.string (strN zs)) w') := fun w' hb =>
    ⟨conv_octs (HS5.out.kept hb) _ _ _ Tryd.underlying26 Tryd.underlying5 Tryd.underlying9, conv_octs (HA5.out.kept hb) _ _ _ Tryd.underlying26 Tryd.underlying5 Tryd.underlying9, conv_octs (HX5.out.kept hb) _ _ _ Tryd.underlying26 Tryd.underlying5 Tryd.underlying9, conv_octs (HI5.out.kept hb) _ _ _ Tryd.underlying26 Tryd.underlying5 Tryd.underlying9⟩
  have HRS : Hid (∀ w0, Below w5.heap.size w5 w0 → Calls Tryd.prog 15 #[.slice a n ca] w0 fun e w' => e = .returned (.string (strN ss)) ∧ Below w0.heap.size w0 w') := fun w0 hb => by
    have := refSeal_octs _ zs w0 (HA5.out.kept hb) (by rw [LA.out]; omega)
    rw [HSS.out] at this
    exact this
  go_region_held (fun w' => (convert 26 9 (.slice a3 (n + 4) cap3)).run Tryd.prog w' = .ok (.string (strN ss)) w' ∧ (convert 26 9 (.slice a n ca)).run Tryd.prog w' = .ok (.string (strN zs)) w' ∧ (convert 26 9 (.slice a4 n4 cap4)).run Tryd.prog w' = .ok (.string (strN zs)) w' ∧ (convert 26 9 (.slice a2 n cap2)).run Tryd.prog w' = .ok (.string (strN zs)) w') (first | exact HK.out _ HB6.out.drew | exact HK.out _ HB10.out) (first
    | (go_at_call 15; refine (HRS.out _ ?_).mono ?_; (· exact HB6.out.drew); rintro e w10 ⟨rfl, hb10⟩; have HB10 : Hid (Below w5.heap.size w5 w10) := HB6.out.trans ((below_undrew hb10).mono HB6.out.size); clear hb10))
  all_goals
    go_wp2
    go_ret
    exact ⟨rfl, HB5.out.trans (HB10.out.mono HB5.out.size)⟩

set_option maxHeartbeats 2000000 in
theorem seals_many (b0 off : Nat) (n m ca : Nat) (zs : List Nat) (w : World) (ha : Octs w (.slice (some ⟨b0, off, none⟩) n ca) zs) (ht : Steps w) (hn : n ≤ 600) (sb : Bool) (hsb : sealedB zs = sb) (hnm : n = m + 4) :
    Calls Tryd.prog 4 #[.slice (some ⟨b0, off, none⟩) n ca] w fun e w' => e = .returned (.bool true) ∧ Below w.heap.size w w' := by
  obtain ⟨i0, hi, hz0, hz1, hz2⟩ := info_parts Tryd.infoU8'
  have HA : Hid (Octs w (.slice (some ⟨b0, off, none⟩) n ca) zs) := ha
  have HT : Hid (Steps w) := ht
  have LA : Hid (zs.length = n) := ha.lenEq
  have SA : Hid (∀ z ∈ zs, z < 256) := ha.small
  have HSB : Hid (sealedB zs = sb) := hsb
  have HNM : Hid (n = m + 4) := hnm
  have hk0 : (0 : Int) ≤ (m : Int) := by omega
  have hk1 : (m : Int) ≤ (ca : Int) := by have := ha.lenEq; obtain ⟨_, _, a', c', e, h3, _⟩ := ha; simp only [Value.slice.injEq] at e; omega
  have hk2 : ¬ ca = 0 := by have := ha.lenEq; obtain ⟨_, _, a', c', e, h3, _⟩ := ha; simp only [Value.slice.injEq] at e; omega
  have hk3 : IntKind.i64.wrap (m : Int) = (m : Int) := by rw [IntKind.wrap_i64]; omega
  have hk4 : (n : Int) - 4 = (m : Int) := by omega
  have hk5 : decide ((4 : Int) ≤ (n : Int)) = true := by simp; omega
  have hk6 : (4 : Int) ≤ (n : Int) := by omega
  clear hsb hnm
  clear ha ht
  go_enter Tryd.func4, Tryd.ntmps4
  go_wp2_with fail
  refine (awake_any _ HT.out).mono ?_
  rintro e w1 ⟨rfl, hb1⟩
  have HB1 : Hid (Below w.heap.size w w1) := hb1
  have hsz1 : w.heap.size ≤ w1.heap.size := hb1.size
  clear hb1
  go_wp2_with (at_builtin; refine wpList_append_octs _ rfl _ _ 26 rfl w1.heap.size 5 i0 Tryd.underlying26 hi hz0 hz1 hz2 _ 0 [] rfl (World.ownsRow_made _ #[] 0 (Nat.le_refl _) (by decide) rfl) _ zs rfl ((HA.out.kept HB1.out).alloc _) ?d1 ?d2 ?_)
  case d1 => rw [LA.out]; omega
  case d2 => simp
  intro v2 w2 hown2 hg2
  have HB12 : Hid (Below w1.heap.size w1 w2) := ((Below.refl _ _).alloc (Nat.le_refl _) _).trans (below_grown (World.ownsRow_made _ #[] 0 (Nat.le_refl _) (by decide) rfl) hg2 (by simp))
  have HB2 : Hid (Below w.heap.size w w2) := HB1.out.trans (HB12.out.mono hsz1)
  have HO2' : Hid (Octs w2 v2 zs) := Octs.owned hown2 SA.out
  obtain ⟨a2, cap2, rfl⟩ := HO2'.out.shape
  have HO2 : Hid (Octs w2 (.slice a2 n cap2) zs) := by rw [← LA.out]; exact HO2'.out
  clear hown2 hg2 HO2'
  rw [LA.out]
  go_wp2_with fail
  refine (seal_octs _ zs _ HO2.out (by rw [LA.out]; omega) (HT.out.below HB2.out)).mono ?_
  rintro e w3 ⟨a3, cap3, rfl, ho3, hb3⟩
  rw [LA.out] at ho3 ⊢
  have HP1 : Hid (sealedB (zs ++ octN (crcSum zs)) = true) := sealedB_seal zs SA.out
  have HQ1 : Hid (openL (zs ++ octN (crcSum zs)) = zs) := openL_seal zs SA.out
  have HO3 : Hid (Octs w3 (.slice a3 (n + 4) cap3) (zs ++ octN (crcSum zs))) := ho3
  have HB3 : Hid (Below w.heap.size w w3) := HB2.out.trans (hb3.mono HB2.out.size)
  have HB23 : Hid (Below w2.heap.size w2 w3) := hb3
  have L3 : Hid ((zs ++ octN (crcSum zs)).length = n + 4) := ho3.lenEq
  obtain ⟨ss, HSS⟩ : ∃ ss, Hid (zs ++ octN (crcSum zs) = ss) := ⟨_, rfl⟩
  rw [HSS.out] at HP1 HQ1 HO3 L3
  clear ho3 hb3
  go_wp2_with fail
  refine (open_v _ ss _ HO3.out (by rw [L3.out]; omega) (HT.out.below HB3.out)).mono ?_
  rintro e w4 ⟨a4, n4, cap4, rfl, ho4, hb4⟩
  rw [HP1.out]
  rw [HQ1.out] at ho4
  have HO4 : Hid (Octs w4 (.slice a4 n4 cap4) zs) := ho4
  have HB4 : Hid (Below w.heap.size w w4) := HB3.out.trans (hb4.mono HB3.out.size)
  have HB34 : Hid (Below w3.heap.size w3 w4) := hb4
  clear ho4 hb4
  go_wp2_with fail
  refine (open_v _ zs _ ((HO2.out.kept HB23.out).kept HB34.out) (by rw [LA.out]; omega) (HT.out.below HB4.out)).mono ?_
  rintro e w5 ⟨a5, n5, cap5, rfl, ho5, hb5⟩
  rw [HSB.out]
  have HO5 : Hid (Octs w5 (.slice a5 n5 cap5) (openL zs)) := ho5
  have HB5 : Hid (Below w.heap.size w w5) := HB4.out.trans (hb5.mono HB4.out.size)
  have HA5 : Hid (Octs w5 (.slice (some ⟨b0, off, none⟩) n ca) zs) := HA.out.kept HB5.out
  have HI5 : Hid (Octs w5 (.slice a2 n cap2) zs) := ((HO2.out.kept HB23.out).kept HB34.out).kept hb5
  have HS5 : Hid (Octs w5 (.slice a3 (n + 4) cap3) ss) := (HO3.out.kept HB34.out).kept hb5
  have HX5 : Hid (Octs w5 (.slice a4 n4 cap4) zs) := HO4.out.kept hb5
  clear ho5 hb5
  have HM5 : Hid (Octs w5 (.slice (some ⟨b0, off, none⟩) m ca) (zs.take m)) := HA5.out.first (by have := HNM.out; omega) (by have := HNM.out; omega)
  have HK7 : Hid (∀ w', Below w5.heap.size w5 w' → (convert 26 9 (.slice (some ⟨b0, off, none⟩) n ca)).run Tryd.prog w' = .ok (.string (strN zs)) w') := fun w' hb =>
    conv_octs (HA5.out.kept hb) _ _ _ Tryd.underlying26 Tryd.underlying5 Tryd.underlying9
  have HR7 : Hid (∀ w0, Below w5.heap.size w5 w0 → Calls Tryd.prog 15 #[.slice (some ⟨b0, off, none⟩) m ca] w0 fun e w' => e = .returned (.string (strN (zs.take m ++ octN (crcSum (zs.take m))))) ∧ Below w0.heap.size w0 w') := fun w0 hb =>
    refSeal_octs _ _ w0 (HM5.out.kept hb) (by rw [HM5.out.lenEq]; have := HNM.out; omega)
  have HF7 : Hid (((strN (zs.take m ++ octN (crcSum (zs.take m)))).toList == (strN zs).toList) = sb) := by
    have e := sealedB_str zs SA.out (by rw [LA.out, HNM.out]; omega)
    rw [LA.out, HNM.out, Nat.add_sub_cancel, HSB.out] at e
    unfold Hid
    rw [toList_beq, e]
  go_wp2_with fail
  go_region_held (fun w' => (convert 26 9 (.slice (some ⟨b0, off, none⟩) n ca)).run Tryd.prog w' = .ok (.string (strN zs)) w') (first | exact HK7.out _ (Below.refl _ _).drew | exact HK7.out _ HB7.out) (first
    | (go_at_call 15; refine (HR7.out _ ?_).mono ?_; (· exact (Below.refl _ _).drew); rintro e w7 ⟨rfl, hb7⟩; have HB7 : Hid (Below w5.heap.size w5 w7) := below_undrew hb7; clear hb7))
  rw [HF7.out]
  have hq1 : n5 = (openL zs).length := HO5.out.lenEq.symm
  have HN5 : Hid (n5 = (openL zs).length) := hq1
  clear hq1
  have HK : Hid (∀ w', Below w5.heap.size w5 w' → (convert 26 9 (.slice a3 (n + 4) cap3)).run Tryd.prog w' = .ok (.string (strN ss)) w' ∧ (convert 26 9 (.slice (some ⟨b0, off, none⟩) n ca)).run Tryd.prog w' = .ok (.string (strN zs)) w' ∧ (convert 26 9 (.slice a4 n4 cap4)).run Tryd.prog w' = .ok (.string (strN zs)) w' ∧ (convert 26 9 (.slice a2 n cap2)).run Tryd.prog w' = .ok (.string (strN zs)) w') := fun w' hb =>
    ⟨conv_octs (HS5.out.kept hb) _ _ _ Tryd.underlying26 Tryd.underlying5 Tryd.underlying9, conv_octs (HA5.out.kept hb) _ _ _ Tryd.underlying26 Tryd.underlying5 Tryd.underlying9, conv_octs (HX5.out.kept hb) _ _ _ Tryd.underlying26 Tryd.underlying5 Tryd.underlying9, conv_octs (HI5.out.kept hb) _ _ _ Tryd.underlying26 Tryd.underlying5 Tryd.underlying9⟩
  have HRS : Hid (∀ w0, Below w5.heap.size w5 w0 → Calls Tryd.prog 15 #[.slice (some ⟨b0, off, none⟩) n ca] w0 fun e w' => e = .returned (.string (strN ss)) ∧ Below w0.heap.size w0 w') := fun w0 hb => by
    have := refSeal_octs _ zs w0 (HA5.out.kept hb) (by rw [LA.out]; omega)
    rw [HSS.out] at this
    exact this
  cases sb
  · have hn5 : n5 = 0 := by rw [HN5.out, openL_no zs HSB.out]; rfl
    subst hn5
    go_wp2_with fail
    go_region_held (fun w' => (convert 26 9 (.slice a3 (n + 4) cap3)).run Tryd.prog w' = .ok (.string (strN ss)) w' ∧ (convert 26 9 (.slice (some ⟨b0, off, none⟩) n ca)).run Tryd.prog w' = .ok (.string (strN zs)) w' ∧ (convert 26 9 (.slice a4 n4 cap4)).run Tryd.prog w' = .ok (.string (strN zs)) w' ∧ (convert 26 9 (.slice a2 n cap2)).run Tryd.prog w' = .ok (.string (strN zs)) w') (first | exact HK.out _ HB7.out.drew | exact HK.out _ HB10.out) (first
      | (go_at_call 15; refine (HRS.out _ ?_).mono ?_; (· exact HB7.out.drew); rintro e w10 ⟨rfl, hb10⟩; have HB10 : Hid (Below w5.heap.size w5 w10) := HB7.out.trans ((below_undrew hb10).mono HB7.out.size); clear hb10))
    all_goals
      go_wp2
      go_ret
      exact ⟨rfl, HB5.out.trans (HB10.out.mono HB5.out.size)⟩
  · have HOL : Hid (openL zs = zs.take m) := by
      unfold Hid openL
      rw [if_pos HSB.out, LA.out, HNM.out, Nat.add_sub_cancel]
    rw [HOL.out] at HO5
    have HKY : Hid (∀ w', Below w5.heap.size w5 w' → (convert 26 9 (.slice a5 n5 cap5)).run Tryd.prog w' = .ok (.string (strN (zs.take m))) w' ∧ (convert 26 9 (.slice (some ⟨b0, off, none⟩) m ca)).run Tryd.prog w' = .ok (.string (strN (zs.take m))) w') := fun w' hb =>
      ⟨conv_octs (HO5.out.kept hb) _ _ _ Tryd.underlying26 Tryd.underlying5 Tryd.underlying9, conv_octs (HM5.out.kept hb) _ _ _ Tryd.underlying26 Tryd.underlying5 Tryd.underlying9⟩
    go_wp2_with fail
    go_region_held (fun w' => (convert 26 9 (.slice a3 (n + 4) cap3)).run Tryd.prog w' = .ok (.string (strN ss)) w' ∧ (convert 26 9 (.slice (some ⟨b0, off, none⟩) n ca)).run Tryd.prog w' = .ok (.string (strN zs)) w' ∧ (convert 26 9 (.slice a4 n4 cap4)).run Tryd.prog w' = .ok (.string (strN zs)) w' ∧ (convert 26 9 (.slice a2 n cap2)).run Tryd.prog w' = .ok (.string (strN zs)) w') (first | exact HK.out _ HB7.out.drew | exact HK.out _ HB10.out) (first
      | (go_at_call 15; refine (HRS.out _ ?_).mono ?_; (· exact HB7.out.drew); rintro e w10 ⟨rfl, hb10⟩; have HB10 : Hid (Below w5.heap.size w5 w10) := HB7.out.trans ((below_undrew hb10).mono HB7.out.size); clear hb10))
    all_goals
      go_wp2_with fail
      go_region_held (fun w' => (convert 26 9 (.slice a5 n5 cap5)).run Tryd.prog w' = .ok (.string (strN (zs.take m))) w' ∧ (convert 26 9 (.slice (some ⟨b0, off, none⟩) m ca)).run Tryd.prog w' = .ok (.string (strN (zs.take m))) w') (first | exact HKY.out _ HB10.out.drew | exact HKY.out _ HB10.out) (fail)
      all_goals
        go_wp2
        go_ret
        exact ⟨rfl, (HB5.out.trans (HB10.out.mono HB5.out.size)).drew⟩

theorem crcSeals_walk (a0 : Option Addr) (len0 cap0 : Nat) (z0 : List Int) (w : World) (ht : Steps w) (f0 : IsRow .u8 w a0 len0 cap0 z0) :
    Calls Tryd.prog 4 #[.slice a0 len0 cap0] w fun e w' => e = .returned (.bool true) ∧ Below w.heap.size w w' := by
  have h0 := Octs.ofRow f0
  have l0 := h0.lenLe
  have HT : Hid (Steps w) := ht
  clear f0
  by_cases hn : len0 ≤ 600
  · by_cases h4 : len0 < 4
    · exact seals_few a0 len0 cap0 _ w h0 ht h4
    · obtain ⟨b0, off, rfl, _, _⟩ := h0.addr (by omega)
      exact seals_many b0 off len0 (len0 - 4) cap0 _ w h0 ht hn _ rfl (by omega)
  · clear h0 ht
    have hn' : (600 : Int) < len0 := by omega
    go_enter Tryd.func4, Tryd.ntmps4
    go_wp2_with fail
    refine (awake_any _ HT.out).mono ?_
    rintro e w1 ⟨rfl, hb1⟩
    have HB1 : Hid (Below w.heap.size w w1) := hb1
    clear hb1
    go_wp2_with fail
    refine (awake_any _ (HT.out.below HB1.out)).mono ?_
    rintro e w2 ⟨rfl, hb2⟩
    go_wp2
    go_ret
    exact ⟨rfl, HB1.out.trans (hb2.mono HB1.out.size)⟩
end Go.Proofs.YtbgnfipnkmfmlaaDoor
