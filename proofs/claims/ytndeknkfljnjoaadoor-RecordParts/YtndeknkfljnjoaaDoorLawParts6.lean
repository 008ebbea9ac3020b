/- The law RecordParts, walked, over the bundle of the program's contracts. (Written by wip/mk_laws6.py.) -/
import Derived.Test.YtndeknkfljnjoaaDoorRec6
namespace Go.Proofs.YtndeknkfljnjoaaDoor
open Go.RowKit
set_option linter.unusedVariables false


set_option maxHeartbeats 2000000 in
set_option maxRecDepth 20000 in
theorem parts_ok (R : Rec6) (p : Part) (a : Option Addr) (n ca : Nat) (b : Option Addr) (m cb : Nat) (zs : List Nat) (w : World) (hp : Octs w (.slice a n ca) p.data) (hb : Octs w (.slice b m cb) zs) (ht : Steps w) (he : -9223372036854775808 ≤ p.epoch ∧ p.epoch ≤ 9223372036854775807) (hn : -9223372036854775808 ≤ p.number ∧ p.number ≤ 9223372036854775807) (hi : -9223372036854775808 ≤ p.index ∧ p.index ≤ 9223372036854775807) (hn3 : n ≤ 300) (hm3 : m ≤ 300) (hok : okP p = true) : Calls Tryd.prog 3 #[pval p (.slice a n ca), .slice b m cb] w fun x w' => x = .returned (.bool true) ∧ Below w.heap.size w w' := by
  obtain ⟨i0, hi0, hz0, hz1, hz2⟩ := info_parts Tryd.infoU8'
  have HR : Hid Rec6 := R
  have HP : Hid (Octs w (.slice a n ca) p.data) := hp
  have HA : Hid (Octs w (.slice b m cb) zs) := hb
  have HT : Hid (Steps w) := ht
  have HE : Hid ((-9223372036854775808 ≤ p.epoch ∧ p.epoch ≤ 9223372036854775807) ∧ (-9223372036854775808 ≤ p.number ∧ p.number ≤ 9223372036854775807) ∧ (-9223372036854775808 ≤ p.index ∧ p.index ≤ 9223372036854775807)) := ⟨he, hn, hi⟩
  have LA : Hid (zs.length = m) := hb.lenEq
  have SA : Hid (∀ z ∈ zs, z < 256) := hb.small
  have HSL : Hid ((sect6 p).length = 128) := sect6_length p (okP_right.1 hok).data
  have HGS : Hid (getP (sect6 p) = some p) := getP_sect p hok
  have hn' : ¬ (300 : Int) < n := by omega
  have hm' : ¬ (300 : Int) < m := by omega
  have I0 : Hid (PA (w.alloc (.cells #[.bool p.foot, .int .i64 p.epoch, .int .i64 p.number, .int .i64 p.index, .slice a n ca] 24)) w.heap.size p.foot p.epoch p.number p.index (.slice a n ca)) := heap_alloc_new _ _
  have HGV : Hid (∀ l c, gotV (getP zs) (.slice l ((getP zs).getD Part.zero).data.length c) = .tuple #[.agg #[.bool ((getP zs).getD Part.zero).foot, .int .i64 ((getP zs).getD Part.zero).epoch, .int .i64 ((getP zs).getD Part.zero).number, .int .i64 ((getP zs).getD Part.zero).index, .slice l ((getP zs).getD Part.zero).data.length c], .bool (getP zs).isSome]) := fun _ _ => rfl
  clear R hp hb ht he hn hi
  go_enter Tryd.func3, Tryd.ntmps3
  go_wp2_with fail
  refine (awake6 HR.out _).mono ?_
  rintro x w1 ⟨rfl, hb1⟩
  have K1 : Hid (PA w1 w.heap.size p.foot p.epoch p.number p.index (.slice a n ca)) := I0.out.same hb1 (by simp)
  have HB1 : Hid (Below w.heap.size w w1) := ((Below.refl _ _).alloc (Nat.le_refl _) _).trans (hb1.mono (by simp))
  clear hb1 I0
  obtain ⟨q0, q1, q2, q3, q4⟩ := K1.out.cells
  go_wp2_with fail
  refine (HR.out.put_ok p _ w1 hok (HP.out.kept HB1.out) (HT.out.below HB1.out)).mono ?_
  rintro x w2 ⟨u, rfl, hu, hb2⟩
  obtain ⟨au, cu, rfl⟩ := hu.shape
  rw [HSL.out] at hu ⊢
  have HU2 : Hid (Octs w2 (.slice au 128 cu) (sect6 p)) := hu
  have K2 : Hid (PA w2 w.heap.size p.foot p.epoch p.number p.index (.slice a n ca)) := K1.out.same hb2 K1.out.lt
  have HB2 : Hid (Below w.heap.size w w2) := HB1.out.trans (hb2.mono HB1.out.size)
  clear hb2 hu q0 q1 q2 q3 q4
  go_wp2_with (at_builtin; refine wpList_append_octs _ rfl _ _ 22 rfl w2.heap.size 5 i0 Tryd.underlying22 hi0 hz0 hz1 hz2 _ 0 [] rfl (World.ownsRow_made _ #[] 0 (Nat.le_refl _) (by decide) rfl) _ zs rfl ((HA.out.kept HB2.out).alloc _) ?d1 ?d2 ?_)
  case d1 => rw [LA.out]; omega
  case d2 => simp
  intro v3 w3 hown3 hg3
  have HD3 : Hid (Below w2.heap.size w2 w3) := ((Below.refl _ _).alloc (Nat.le_refl _) _).trans (below_grown (World.ownsRow_made _ #[] 0 (Nat.le_refl _) (by decide) rfl) hg3 (by simp))
  have HO3 : Hid (Octs w3 v3 zs) := Octs.owned hown3 SA.out
  clear hown3 hg3
  go_wp2_with fail
  refine (HR.out.get _ zs w3 HO3.out (by rw [LA.out]; omega) (HT.out.below (HB2.out.trans (HD3.out.mono HB2.out.size)))).mono ?_
  rintro x w4 ⟨u4, rfl, hu4, hb4⟩
  obtain ⟨a4, c4, rfl⟩ := hu4.shape
  rw [HGV.out]
  have HD4 : Hid (Below w2.heap.size w2 w4) := HD3.out.trans (hb4.mono HD3.out.size)
  have HR5 : Hid (∀ w, Calls Tryd.prog 10 #[.string (strN zs)] w fun x w' => ∃ l c, x = .returned (.tuple #[.agg #[.bool ((getP zs).getD Part.zero).foot, .int .i64 ((getP zs).getD Part.zero).epoch, .int .i64 ((getP zs).getD Part.zero).number, .int .i64 ((getP zs).getD Part.zero).index, .slice l ((getP zs).getD Part.zero).data.length c], .bool (getP zs).isSome]) ∧ Octs w' (.slice l ((getP zs).getD Part.zero).data.length c) ((getP zs).getD Part.zero).data ∧ Below w.heap.size w w') := fun w => by
    refine (refGet6 zs SA.out (by rw [LA.out]; omega) w).mono ?_
    rintro x w' ⟨v, rfl, ho, _, hb⟩
    obtain ⟨l, c, rfl⟩ := ho.shape
    exact ⟨l, c, by rw [HGV.out], ho, hb⟩
  have HU4 : Hid (Octs w4 (.slice a4 ((getP zs).getD Part.zero).data.length c4) ((getP zs).getD Part.zero).data) := hu4
  clear hu4 hb4 HGV HO3 HD3
  generalize (getP zs).getD Part.zero = r at *
  generalize (getP zs).isSome = bs at *
  have K4 : Hid (PA (w4.alloc (.cells #[.bool r.foot, .int .i64 r.epoch, .int .i64 r.number, .int .i64 r.index, .slice a4 r.data.length c4] 24)) w4.heap.size r.foot r.epoch r.number r.index (.slice a4 r.data.length c4)) := heap_alloc_new _ _
  have D4 : Hid (Below w2.heap.size w2 (w4.alloc (.cells #[.bool r.foot, .int .i64 r.epoch, .int .i64 r.number, .int .i64 r.index, .slice a4 r.data.length c4] 24))) := HD4.out.alloc HD4.out.size _
  have O4 : Hid (Octs (w4.alloc (.cells #[.bool r.foot, .int .i64 r.epoch, .int .i64 r.number, .int .i64 r.index, .slice a4 r.data.length c4] 24)) (.slice a4 r.data.length c4) r.data) := HU4.out.alloc _
  have cv : (convert 22 9 (.slice b m cb)).run Tryd.prog (w4.alloc (.cells #[.bool r.foot, .int .i64 r.epoch, .int .i64 r.number, .int .i64 r.index, .slice a4 r.data.length c4] 24)) = .ok (.string (strN (zs))) (w4.alloc (.cells #[.bool r.foot, .int .i64 r.epoch, .int .i64 r.number, .int .i64 r.index, .slice a4 r.data.length c4] 24)) := conv_octs (P := Tryd.prog) ((HA.out.kept HB2.out).kept D4.out) _ _ _ Tryd.underlying22 Tryd.underlying5 Tryd.underlying9
  clear HU4 HD4
  go_wp2_with fail
  generalize w4.alloc (.cells #[.bool r.foot, .int .i64 r.epoch, .int .i64 r.number, .int .i64 r.index, .slice a4 r.data.length c4] 24) = V4 at *
  generalize w4.heap.size = b4 at *
  clear cv
  refine (HR5.out V4).mono ?_
  rintro x w5 ⟨a5, c5, rfl, hu5, hb5⟩
  have K5 : Hid (PA (w5.alloc (.cells #[.bool r.foot, .int .i64 r.epoch, .int .i64 r.number, .int .i64 r.index, .slice a5 r.data.length c5] 24)) w5.heap.size r.foot r.epoch r.number r.index (.slice a5 r.data.length c5)) := heap_alloc_new _ _
  have D5 : Hid (Below V4.heap.size V4 (w5.alloc (.cells #[.bool r.foot, .int .i64 r.epoch, .int .i64 r.number, .int .i64 r.index, .slice a5 r.data.length c5] 24))) := hb5.alloc hb5.size _
  have O5 : Hid (Octs (w5.alloc (.cells #[.bool r.foot, .int .i64 r.epoch, .int .i64 r.number, .int .i64 r.index, .slice a5 r.data.length c5] 24)) (.slice a5 r.data.length c5) r.data) := hu5.alloc _
  have K45 : Hid (PA (w5.alloc (.cells #[.bool r.foot, .int .i64 r.epoch, .int .i64 r.number, .int .i64 r.index, .slice a5 r.data.length c5] 24)) b4 r.foot r.epoch r.number r.index (.slice a4 r.data.length c4)) := K4.out.same D5.out K4.out.lt
  obtain ⟨q0, q1, q2, q3, q4⟩ := K5.out.cells
  obtain ⟨s0, s1, s2, s3, s4⟩ := K45.out.cells
  clear hu5 hb5 HR5
  go_wp2_with fail
  clear q0 q1 q2 q3 q4 s0 s1 s2 s3 s4
  generalize w5.alloc (.cells #[.bool r.foot, .int .i64 r.epoch, .int .i64 r.number, .int .i64 r.index, .slice a5 r.data.length c5] 24) = V5 at *
  generalize w5.heap.size = b5 at *
  refine (same6 r _ _ V5 (O4.out.kept D5.out) O5.out).mono ?_
  rintro x w8 ⟨rfl, hb8⟩
  have HD8 : Hid (Below w2.heap.size w2 w8) := (D4.out.trans (D5.out.mono D4.out.size)).trans (hb8.mono (Nat.le_trans D4.out.size D5.out.size))
  have HB8 : Hid (Below w.heap.size w w8) := HB2.out.trans (HD8.out.mono HB2.out.size)
  have K8 : Hid (PA w8 w.heap.size p.foot p.epoch p.number p.index (.slice a n ca)) := K2.out.same HD8.out K2.out.lt
  clear hb8 K4 D4 O4 K5 D5 O5 K45 K2
  obtain ⟨q0, q1, q2, q3, q4⟩ := K8.out.cells
  go_wp2_with fail
  refine (refRight6 p _ w8 (HP.out.kept HB8.out)).mono ?_
  rintro x w9 ⟨rfl, hb9⟩
  rw [hok]
  have HD9 : Hid (Below w2.heap.size w2 w9) := HD8.out.trans (hb9.mono HD8.out.size)
  have HB9 : Hid (Below w.heap.size w w9) := HB8.out.trans (hb9.mono HB8.out.size)
  have K9 : Hid (PA w9 w.heap.size p.foot p.epoch p.number p.index (.slice a n ca)) := K8.out.same hb9 K8.out.lt
  clear hb9 q0 q1 q2 q3 q4
  have HU9 : Hid (Octs w9 (.slice au 128 cu) (sect6 p)) := (HU2.out.kept HD9.out)
  go_wp2_with fail
  refine (HR.out.get _ (sect6 p) w9 HU9.out (by rw [HSL.out]; decide) (HT.out.below HB9.out)).mono ?_
  rintro x w10 ⟨uq, rfl, huq, hb10⟩
  rw [HGS.out] at huq ⊢
  obtain ⟨aq, cq, rfl⟩ := huq.shape
  have HQ10 : Hid (Octs w10 (.slice aq p.data.length cq) p.data) := huq
  have HVQ : Hid (gotV (some p) (.slice aq ((some p).getD Part.zero).data.length cq) = .tuple #[.agg #[.bool p.foot, .int .i64 p.epoch, .int .i64 p.number, .int .i64 p.index, .slice aq p.data.length cq], .bool true]) := rfl
  rw [HVQ.out]
  have K6 : Hid (PA (w10.alloc (.cells #[.bool p.foot, .int .i64 p.epoch, .int .i64 p.number, .int .i64 p.index, .slice aq p.data.length cq] 24)) w10.heap.size p.foot p.epoch p.number p.index (.slice aq p.data.length cq)) := heap_alloc_new _ _
  have D6 : Hid (Below w9.heap.size w9 (w10.alloc (.cells #[.bool p.foot, .int .i64 p.epoch, .int .i64 p.number, .int .i64 p.index, .slice aq p.data.length cq] 24))) := hb10.alloc hb10.size _
  have O6 : Hid (Octs (w10.alloc (.cells #[.bool p.foot, .int .i64 p.epoch, .int .i64 p.number, .int .i64 p.index, .slice aq p.data.length cq] 24)) (.slice aq p.data.length cq) p.data) := HQ10.out.alloc _
  clear hb10 huq HQ10
  go_wp2_with fail
  generalize w10.alloc (.cells #[.bool p.foot, .int .i64 p.epoch, .int .i64 p.number, .int .i64 p.index, .slice aq p.data.length cq] 24) = V6 at *
  generalize w10.heap.size = b6 at *
  have HE6 : Hid (∀ w', Below V6.heap.size V6 w' → w'.cell? ⟨w.heap.size, 0, none⟩ = some (.bool p.foot) ∧ w'.cell? ⟨w.heap.size, 1, none⟩ = some (.int .i64 p.epoch) ∧ w'.cell? ⟨w.heap.size, 2, none⟩ = some (.int .i64 p.number) ∧ w'.cell? ⟨w.heap.size, 3, none⟩ = some (.int .i64 p.index) ∧ w'.cell? ⟨w.heap.size, 4, none⟩ = some (.slice a n ca) ∧ w'.cell? ⟨b6, 0, none⟩ = some (.bool p.foot) ∧ w'.cell? ⟨b6, 1, none⟩ = some (.int .i64 p.epoch) ∧ w'.cell? ⟨b6, 2, none⟩ = some (.int .i64 p.number) ∧ w'.cell? ⟨b6, 3, none⟩ = some (.int .i64 p.index) ∧ w'.cell? ⟨b6, 4, none⟩ = some (.slice aq p.data.length cq) ∧ (convert 22 9 (.slice au 128 cu)).run Tryd.prog w' = .ok (.string (strN (sect6 p))) w') := fun w' h => by
    have g := D6.out.trans (h.mono D6.out.size)
    obtain ⟨x0, x1, x2, x3, x4⟩ := (K9.out.same g K9.out.lt).cells
    obtain ⟨y0, y1, y2, y3, y4⟩ := (K6.out.same h K6.out.lt).cells
    exact ⟨x0, x1, x2, x3, x4, y0, y1, y2, y3, y4, conv_octs (P := Tryd.prog) (HU9.out.kept g) _ _ _ Tryd.underlying22 Tryd.underlying5 Tryd.underlying9⟩
  have HPW : Hid (∀ w', Below V6.heap.size V6 w' → Octs w' (.slice a n ca) p.data) := fun w' h => (HP.out.kept HB9.out).kept (D6.out.trans (h.mono D6.out.size))
  have HQW : Hid (∀ w', Below V6.heap.size V6 w' → Octs w' (.slice aq p.data.length cq) p.data) := fun w' h => O6.out.kept h
  go_region_held (fun w' => w'.cell? ⟨w.heap.size, 0, none⟩ = some (.bool p.foot) ∧ w'.cell? ⟨w.heap.size, 1, none⟩ = some (.int .i64 p.epoch) ∧ w'.cell? ⟨w.heap.size, 2, none⟩ = some (.int .i64 p.number) ∧ w'.cell? ⟨w.heap.size, 3, none⟩ = some (.int .i64 p.index) ∧ w'.cell? ⟨w.heap.size, 4, none⟩ = some (.slice a n ca) ∧ w'.cell? ⟨b6, 0, none⟩ = some (.bool p.foot) ∧ w'.cell? ⟨b6, 1, none⟩ = some (.int .i64 p.epoch) ∧ w'.cell? ⟨b6, 2, none⟩ = some (.int .i64 p.number) ∧ w'.cell? ⟨b6, 3, none⟩ = some (.int .i64 p.index) ∧ w'.cell? ⟨b6, 4, none⟩ = some (.slice aq p.data.length cq) ∧ (convert 22 9 (.slice au 128 cu)).run Tryd.prog w' = .ok (.string (strN (sect6 p))) w') (first | exact HE6.out _ (Below.refl _ _).drew | exact HE6.out _ HBa.out | exact HE6.out _ HBd.out) (first
    | (go_at_call 13; refine (refPut6 p _ V6.drew hok (HPW.out _ (Below.refl _ _).drew)).mono ?_; rintro x wa ⟨rfl, hba⟩; have HBa : Hid (Below V6.heap.size V6 wa) := below_undrew hba; clear hba)
    | (go_at_call 11; refine (same6 p _ _ wa (HQW.out _ HBa.out) (HPW.out _ HBa.out)).mono ?_; rintro x wd ⟨rfl, hbd⟩; have HBd : Hid (Below V6.heap.size V6 wd) := HBa.out.trans (hbd.mono HBa.out.size); clear hbd))
  all_goals
    go_wp2
    go_ret
    exact ⟨rfl, HB9.out.trans ((D6.out.trans (HBd.out.mono D6.out.size)).mono HB9.out.size)⟩

set_option maxHeartbeats 2000000 in
set_option maxRecDepth 20000 in
theorem parts_no (R : Rec6) (p : Part) (a : Option Addr) (n ca : Nat) (b : Option Addr) (m cb : Nat) (zs : List Nat) (w : World) (hp : Octs w (.slice a n ca) p.data) (hb : Octs w (.slice b m cb) zs) (ht : Steps w) (he : -9223372036854775808 ≤ p.epoch ∧ p.epoch ≤ 9223372036854775807) (hn : -9223372036854775808 ≤ p.number ∧ p.number ≤ 9223372036854775807) (hi : -9223372036854775808 ≤ p.index ∧ p.index ≤ 9223372036854775807) (hn3 : n ≤ 300) (hm3 : m ≤ 300) (hok : okP p = false) : Calls Tryd.prog 3 #[pval p (.slice a n ca), .slice b m cb] w fun x w' => x = .returned (.bool true) ∧ Below w.heap.size w w' := by
  obtain ⟨i0, hi0, hz0, hz1, hz2⟩ := info_parts Tryd.infoU8'
  have HR : Hid Rec6 := R
  have HP : Hid (Octs w (.slice a n ca) p.data) := hp
  have HA : Hid (Octs w (.slice b m cb) zs) := hb
  have HT : Hid (Steps w) := ht
  have HE : Hid ((-9223372036854775808 ≤ p.epoch ∧ p.epoch ≤ 9223372036854775807) ∧ (-9223372036854775808 ≤ p.number ∧ p.number ≤ 9223372036854775807) ∧ (-9223372036854775808 ≤ p.index ∧ p.index ≤ 9223372036854775807)) := ⟨he, hn, hi⟩
  have LA : Hid (zs.length = m) := hb.lenEq
  have SA : Hid (∀ z ∈ zs, z < 256) := hb.small
  have HSL : True := trivial
  have HGS : True := trivial
  have hn' : ¬ (300 : Int) < n := by omega
  have hm' : ¬ (300 : Int) < m := by omega
  have I0 : Hid (PA (w.alloc (.cells #[.bool p.foot, .int .i64 p.epoch, .int .i64 p.number, .int .i64 p.index, .slice a n ca] 24)) w.heap.size p.foot p.epoch p.number p.index (.slice a n ca)) := heap_alloc_new _ _
  have HGV : Hid (∀ l c, gotV (getP zs) (.slice l ((getP zs).getD Part.zero).data.length c) = .tuple #[.agg #[.bool ((getP zs).getD Part.zero).foot, .int .i64 ((getP zs).getD Part.zero).epoch, .int .i64 ((getP zs).getD Part.zero).number, .int .i64 ((getP zs).getD Part.zero).index, .slice l ((getP zs).getD Part.zero).data.length c], .bool (getP zs).isSome]) := fun _ _ => rfl
  clear R hp hb ht he hn hi
  go_enter Tryd.func3, Tryd.ntmps3
  go_wp2_with fail
  refine (awake6 HR.out _).mono ?_
  rintro x w1 ⟨rfl, hb1⟩
  have K1 : Hid (PA w1 w.heap.size p.foot p.epoch p.number p.index (.slice a n ca)) := I0.out.same hb1 (by simp)
  have HB1 : Hid (Below w.heap.size w w1) := ((Below.refl _ _).alloc (Nat.le_refl _) _).trans (hb1.mono (by simp))
  clear hb1 I0
  obtain ⟨q0, q1, q2, q3, q4⟩ := K1.out.cells
  go_wp2_with fail
  refine (HR.out.put_no p _ w1 hok (HP.out.kept HB1.out) HE.out.1 HE.out.2.1 HE.out.2.2).mono ?_
  rintro x w2 ⟨u, rfl, hu, hb2⟩
  obtain ⟨au, cu, rfl⟩ := hu.shape
  rw [show ([] : List Nat).length = 0 from rfl]
  have K2 : Hid (PA w2 w.heap.size p.foot p.epoch p.number p.index (.slice a n ca)) := K1.out.same hb2 K1.out.lt
  have HB2 : Hid (Below w.heap.size w w2) := HB1.out.trans (hb2.mono HB1.out.size)
  clear hb2 hu q0 q1 q2 q3 q4
  go_wp2_with (at_builtin; refine wpList_append_octs _ rfl _ _ 22 rfl w2.heap.size 5 i0 Tryd.underlying22 hi0 hz0 hz1 hz2 _ 0 [] rfl (World.ownsRow_made _ #[] 0 (Nat.le_refl _) (by decide) rfl) _ zs rfl ((HA.out.kept HB2.out).alloc _) ?d1 ?d2 ?_)
  case d1 => rw [LA.out]; omega
  case d2 => simp
  intro v3 w3 hown3 hg3
  have HD3 : Hid (Below w2.heap.size w2 w3) := ((Below.refl _ _).alloc (Nat.le_refl _) _).trans (below_grown (World.ownsRow_made _ #[] 0 (Nat.le_refl _) (by decide) rfl) hg3 (by simp))
  have HO3 : Hid (Octs w3 v3 zs) := Octs.owned hown3 SA.out
  clear hown3 hg3
  go_wp2_with fail
  refine (HR.out.get _ zs w3 HO3.out (by rw [LA.out]; omega) (HT.out.below (HB2.out.trans (HD3.out.mono HB2.out.size)))).mono ?_
  rintro x w4 ⟨u4, rfl, hu4, hb4⟩
  obtain ⟨a4, c4, rfl⟩ := hu4.shape
  rw [HGV.out]
  have HD4 : Hid (Below w2.heap.size w2 w4) := HD3.out.trans (hb4.mono HD3.out.size)
  have HR5 : Hid (∀ w, Calls Tryd.prog 10 #[.string (strN zs)] w fun x w' => ∃ l c, x = .returned (.tuple #[.agg #[.bool ((getP zs).getD Part.zero).foot, .int .i64 ((getP zs).getD Part.zero).epoch, .int .i64 ((getP zs).getD Part.zero).number, .int .i64 ((getP zs).getD Part.zero).index, .slice l ((getP zs).getD Part.zero).data.length c], .bool (getP zs).isSome]) ∧ Octs w' (.slice l ((getP zs).getD Part.zero).data.length c) ((getP zs).getD Part.zero).data ∧ Below w.heap.size w w') := fun w => by
    refine (refGet6 zs SA.out (by rw [LA.out]; omega) w).mono ?_
    rintro x w' ⟨v, rfl, ho, _, hb⟩
    obtain ⟨l, c, rfl⟩ := ho.shape
    exact ⟨l, c, by rw [HGV.out], ho, hb⟩
  have HU4 : Hid (Octs w4 (.slice a4 ((getP zs).getD Part.zero).data.length c4) ((getP zs).getD Part.zero).data) := hu4
  clear hu4 hb4 HGV HO3 HD3
  generalize (getP zs).getD Part.zero = r at *
  generalize (getP zs).isSome = bs at *
  have K4 : Hid (PA (w4.alloc (.cells #[.bool r.foot, .int .i64 r.epoch, .int .i64 r.number, .int .i64 r.index, .slice a4 r.data.length c4] 24)) w4.heap.size r.foot r.epoch r.number r.index (.slice a4 r.data.length c4)) := heap_alloc_new _ _
  have D4 : Hid (Below w2.heap.size w2 (w4.alloc (.cells #[.bool r.foot, .int .i64 r.epoch, .int .i64 r.number, .int .i64 r.index, .slice a4 r.data.length c4] 24))) := HD4.out.alloc HD4.out.size _
  have O4 : Hid (Octs (w4.alloc (.cells #[.bool r.foot, .int .i64 r.epoch, .int .i64 r.number, .int .i64 r.index, .slice a4 r.data.length c4] 24)) (.slice a4 r.data.length c4) r.data) := HU4.out.alloc _
  have cv : (convert 22 9 (.slice b m cb)).run Tryd.prog (w4.alloc (.cells #[.bool r.foot, .int .i64 r.epoch, .int .i64 r.number, .int .i64 r.index, .slice a4 r.data.length c4] 24)) = .ok (.string (strN (zs))) (w4.alloc (.cells #[.bool r.foot, .int .i64 r.epoch, .int .i64 r.number, .int .i64 r.index, .slice a4 r.data.length c4] 24)) := conv_octs (P := Tryd.prog) ((HA.out.kept HB2.out).kept D4.out) _ _ _ Tryd.underlying22 Tryd.underlying5 Tryd.underlying9
  clear HU4 HD4
  go_wp2_with fail
  generalize w4.alloc (.cells #[.bool r.foot, .int .i64 r.epoch, .int .i64 r.number, .int .i64 r.index, .slice a4 r.data.length c4] 24) = V4 at *
  generalize w4.heap.size = b4 at *
  clear cv
  refine (HR5.out V4).mono ?_
  rintro x w5 ⟨a5, c5, rfl, hu5, hb5⟩
  have K5 : Hid (PA (w5.alloc (.cells #[.bool r.foot, .int .i64 r.epoch, .int .i64 r.number, .int .i64 r.index, .slice a5 r.data.length c5] 24)) w5.heap.size r.foot r.epoch r.number r.index (.slice a5 r.data.length c5)) := heap_alloc_new _ _
  have D5 : Hid (Below V4.heap.size V4 (w5.alloc (.cells #[.bool r.foot, .int .i64 r.epoch, .int .i64 r.number, .int .i64 r.index, .slice a5 r.data.length c5] 24))) := hb5.alloc hb5.size _
  have O5 : Hid (Octs (w5.alloc (.cells #[.bool r.foot, .int .i64 r.epoch, .int .i64 r.number, .int .i64 r.index, .slice a5 r.data.length c5] 24)) (.slice a5 r.data.length c5) r.data) := hu5.alloc _
  have K45 : Hid (PA (w5.alloc (.cells #[.bool r.foot, .int .i64 r.epoch, .int .i64 r.number, .int .i64 r.index, .slice a5 r.data.length c5] 24)) b4 r.foot r.epoch r.number r.index (.slice a4 r.data.length c4)) := K4.out.same D5.out K4.out.lt
  obtain ⟨q0, q1, q2, q3, q4⟩ := K5.out.cells
  obtain ⟨s0, s1, s2, s3, s4⟩ := K45.out.cells
  clear hu5 hb5 HR5
  go_wp2_with fail
  clear q0 q1 q2 q3 q4 s0 s1 s2 s3 s4
  generalize w5.alloc (.cells #[.bool r.foot, .int .i64 r.epoch, .int .i64 r.number, .int .i64 r.index, .slice a5 r.data.length c5] 24) = V5 at *
  generalize w5.heap.size = b5 at *
  refine (same6 r _ _ V5 (O4.out.kept D5.out) O5.out).mono ?_
  rintro x w8 ⟨rfl, hb8⟩
  have HD8 : Hid (Below w2.heap.size w2 w8) := (D4.out.trans (D5.out.mono D4.out.size)).trans (hb8.mono (Nat.le_trans D4.out.size D5.out.size))
  have HB8 : Hid (Below w.heap.size w w8) := HB2.out.trans (HD8.out.mono HB2.out.size)
  have K8 : Hid (PA w8 w.heap.size p.foot p.epoch p.number p.index (.slice a n ca)) := K2.out.same HD8.out K2.out.lt
  clear hb8 K4 D4 O4 K5 D5 O5 K45 K2
  obtain ⟨q0, q1, q2, q3, q4⟩ := K8.out.cells
  go_wp2_with fail
  refine (refRight6 p _ w8 (HP.out.kept HB8.out)).mono ?_
  rintro x w9 ⟨rfl, hb9⟩
  rw [hok]
  have HD9 : Hid (Below w2.heap.size w2 w9) := HD8.out.trans (hb9.mono HD8.out.size)
  have HB9 : Hid (Below w.heap.size w w9) := HB8.out.trans (hb9.mono HB8.out.size)
  have K9 : Hid (PA w9 w.heap.size p.foot p.epoch p.number p.index (.slice a n ca)) := K8.out.same hb9 K8.out.lt
  clear hb9 q0 q1 q2 q3 q4
  go_wp2
  go_ret
  exact ⟨rfl, HB9.out⟩

set_option maxHeartbeats 400000 in
theorem parts_far (R : Rec6) (p : Part) (a : Option Addr) (n ca : Nat) (b : Option Addr) (m cb : Nat) (zs : List Nat) (w : World) (hp : Octs w (.slice a n ca) p.data) (hb : Octs w (.slice b m cb) zs) (ht : Steps w) (he : -9223372036854775808 ≤ p.epoch ∧ p.epoch ≤ 9223372036854775807) (hn : -9223372036854775808 ≤ p.number ∧ p.number ≤ 9223372036854775807) (hi : -9223372036854775808 ≤ p.index ∧ p.index ≤ 9223372036854775807) (h : 300 < n ∨ 300 < m) (h9 : n ≤ 9223372036854775807) (h8 : m ≤ 9223372036854775807) : Calls Tryd.prog 3 #[pval p (.slice a n ca), .slice b m cb] w fun x w' => x = .returned (.bool true) ∧ Below w.heap.size w w' := by
  have HR : Hid Rec6 := R
  have I0 : Hid (PA (w.alloc (.cells #[.bool p.foot, .int .i64 p.epoch, .int .i64 p.number, .int .i64 p.index, .slice a n ca] 24)) w.heap.size p.foot p.epoch p.number p.index (.slice a n ca)) := heap_alloc_new _ _
  clear R hp hb ht he hn hi
  by_cases hn : 300 < n
  · have hn' : (300 : Int) < n := by omega
    clear h
    go_enter Tryd.func3, Tryd.ntmps3
    go_wp2_with fail
    refine (awake6 HR.out _).mono ?_
    rintro x w1 ⟨rfl, hb1⟩
    have K1 : Hid (PA w1 w.heap.size p.foot p.epoch p.number p.index (.slice a n ca)) := I0.out.same hb1 (by simp)
    have HB1 : Hid (Below w.heap.size w w1) := ((Below.refl _ _).alloc (Nat.le_refl _) _).trans (hb1.mono (by simp))
    clear hb1 I0
    obtain ⟨q0, q1, q2, q3, q4⟩ := K1.out.cells
    go_wp2_with fail
    refine (awake6 HR.out _).mono ?_
    rintro x w2 ⟨rfl, hb2⟩
    go_wp2
    go_ret
    exact ⟨rfl, HB1.out.trans (hb2.mono HB1.out.size)⟩
  · have hn' : ¬ (300 : Int) < n := by omega
    have hm' : (300 : Int) < m := by omega
    clear h
    go_enter Tryd.func3, Tryd.ntmps3
    go_wp2_with fail
    refine (awake6 HR.out _).mono ?_
    rintro x w1 ⟨rfl, hb1⟩
    have K1 : Hid (PA w1 w.heap.size p.foot p.epoch p.number p.index (.slice a n ca)) := I0.out.same hb1 (by simp)
    have HB1 : Hid (Below w.heap.size w w1) := ((Below.refl _ _).alloc (Nat.le_refl _) _).trans (hb1.mono (by simp))
    clear hb1 I0
    obtain ⟨q0, q1, q2, q3, q4⟩ := K1.out.cells
    go_wp2_with fail
    refine (awake6 HR.out _).mono ?_
    rintro x w2 ⟨rfl, hb2⟩
    go_wp2
    go_ret
    exact ⟨rfl, HB1.out.trans (hb2.mono HB1.out.size)⟩

theorem recordParts_of (R : Rec6) (F0 : Bool) (E0 N0 I0 : Int) (a0 : Option Addr) (len0 cap0 : Nat) (z0 : List Int) (a1 : Option Addr) (len1 cap1 : Nat) (z1 : List Int) (w : World) (ht : Steps w)
    (fe : (Lit.int .i64 E0).wf = true) (fn : (Lit.int .i64 N0).wf = true) (fi : (Lit.int .i64 I0).wf = true) (f0 : IsRow .u8 w a0 len0 cap0 z0) (f1 : IsRow .u8 w a1 len1 cap1 z1) :
    Calls Tryd.prog 3 #[.agg #[.bool F0, .int .i64 E0, .int .i64 N0, .int .i64 I0, .slice a0 len0 cap0], .slice a1 len1 cap1] w fun x w' => x = .returned (.bool true) ∧ Below w.heap.size w w' := by
  have h0 := Octs.ofRow f0
  have h1 := Octs.ofRow f1
  have l0 := h0.lenLe
  have l1 := h1.lenLe
  have he : -9223372036854775808 ≤ E0 ∧ E0 ≤ 9223372036854775807 := by simpa [Lit.wf, IntKind.min, IntKind.max, IntKind.signed, IntKind.bits] using fe
  have hn : -9223372036854775808 ≤ N0 ∧ N0 ≤ 9223372036854775807 := by simpa [Lit.wf, IntKind.min, IntKind.max, IntKind.signed, IntKind.bits] using fn
  have hi : -9223372036854775808 ≤ I0 ∧ I0 ≤ 9223372036854775807 := by simpa [Lit.wf, IntKind.min, IntKind.max, IntKind.signed, IntKind.bits] using fi
  obtain ⟨zs0, hz0⟩ : ∃ zs, Octs w (.slice a0 len0 cap0) zs := ⟨_, h0⟩
  obtain ⟨zs1, hz1⟩ : ∃ zs, Octs w (.slice a1 len1 cap1) zs := ⟨_, h1⟩
  by_cases h : 300 < len0 ∨ 300 < len1
  · exact parts_far R ⟨F0, E0, N0, I0, zs0⟩ a0 len0 cap0 a1 len1 cap1 zs1 w hz0 hz1 ht he hn hi h (by omega) (by omega)
  · by_cases hk : okP ⟨F0, E0, N0, I0, zs0⟩ = true
    · exact parts_ok R ⟨F0, E0, N0, I0, zs0⟩ a0 len0 cap0 a1 len1 cap1 zs1 w hz0 hz1 ht he hn hi (by omega) (by omega) hk
    · exact parts_no R ⟨F0, E0, N0, I0, zs0⟩ a0 len0 cap0 a1 len1 cap1 zs1 w hz0 hz1 ht he hn hi (by omega) (by omega) (by simpa using hk)
end Go.Proofs.YtndeknkfljnjoaaDoor
