/- The law SuperGets, walked. (Written by wip/mk_laws5.py.) -/
import Derived.Test.YtgbibhbmcbbbhaaDoorWalkAwake5
import Derived.Test.YtgbibhbmcbbbhaaDoorWalkRefTop5
namespace Go.Proofs.YtgbibhbmcbbbhaaDoor
open Go.RowKit
set_option linter.unusedVariables false


theorem toldV_form (o : Option Sup) : ∃ (r : Sup) (b : Bool), toldV o = .tuple #[.agg #[.int .i64 r.gen, .int .i64 r.journal, .int .i64 r.area, .int .i64 r.which, .int .i64 r.len, .int .u32 r.sum, .int .i64 r.epoch, .int .i64 r.start], .bool b] := ⟨o.getD Sup.zero, o.isSome, rfl⟩

set_option maxHeartbeats 2000000 in
set_option maxRecDepth 20000 in
theorem gets_main (a : Option Addr) (n ca : Nat) (zs : List Nat) (w : World) (ha : Octs w (.slice a n ca) zs) (ht : Steps w) (hn : n ≤ 600) :
    Calls Tryd.prog 4 #[.slice a n ca] w fun e w' => e = .returned (.bool true) ∧ Below w.heap.size w w' := by
  obtain ⟨i0, hi, hz0, hz1, hz2⟩ := info_parts Tryd.infoU8'
  have HA : Hid (Octs w (.slice a n ca) zs) := ha
  have HT : Hid (Steps w) := ht
  have LA : Hid (zs.length = n) := ha.lenEq
  have SA : Hid (∀ z ∈ zs, z < 256) := ha.small
  have HL : Hid (zs.length ≤ 100000) := by unfold Hid; rw [LA.out]; omega
  obtain ⟨r1, b1, hv1⟩ := toldV_form (getS zs)
  obtain ⟨r2, b2, hv2⟩ := toldV_form (newestS zs)
  have V1 : Hid (toldV (getS zs) = .tuple #[.agg #[.int .i64 r1.gen, .int .i64 r1.journal, .int .i64 r1.area, .int .i64 r1.which, .int .i64 r1.len, .int .u32 r1.sum, .int .i64 r1.epoch, .int .i64 r1.start], .bool b1]) := hv1
  have V2 : Hid (toldV (newestS zs) = .tuple #[.agg #[.int .i64 r2.gen, .int .i64 r2.journal, .int .i64 r2.area, .int .i64 r2.which, .int .i64 r2.len, .int .u32 r2.sum, .int .i64 r2.epoch, .int .i64 r2.start], .bool b2]) := hv2
  clear ha ht hv1 hv2
  have hn' : ¬ (600 : Int) < n := by omega
  go_enter Tryd.func4, Tryd.ntmps4
  go_wp2_with fail
  refine (awake5 _ HT.out).mono ?_
  rintro e w1 ⟨rfl, hb1⟩
  have HB1 : Hid (Below w.heap.size w w1) := hb1
  have hsz1 : w.heap.size ≤ w1.heap.size := hb1.size
  clear hb1
  go_wp2_with (at_builtin; refine wpList_append_octs _ rfl _ _ 26 rfl w.heap.size 5 i0 Tryd.underlying26 hi hz0 hz1 hz2 _ 0 [] rfl (World.ownsRow_made _ #[] 0 hsz1 (by decide) rfl) _ zs rfl ((HA.out.kept HB1.out).alloc _) ?d1 ?d2 ?_)
  case d1 => rw [LA.out]; omega
  case d2 => simp; omega
  intro v3 w3 hown3 hg3
  have HB3 : Hid (Below w.heap.size w w3) := (HB1.out.alloc hsz1 _).trans (below_grown (World.ownsRow_made _ #[] 0 hsz1 (by decide) rfl) hg3 (by simp; omega))
  have HO3 : Hid (Octs w3 v3 zs) := Octs.owned hown3 SA.out
  obtain ⟨a3, cap3, rfl⟩ := HO3.out.shape
  rw [LA.out] at HO3 ⊢
  clear hown3 hg3 hsz1
  go_wp2_with fail
  refine (get5 _ zs _ HO3.out (HT.out.below HB3.out)).mono ?_
  rintro e w4 ⟨rfl, hb4⟩
  rw [V1.out]
  have H34 : Hid (Below w3.heap.size w3 w4) := hb4
  have P1 : Hid (SupAt (w4.alloc (.cells #[.int .i64 r1.gen, .int .i64 r1.journal, .int .i64 r1.area, .int .i64 r1.which, .int .i64 r1.len, .int .u32 r1.sum, .int .i64 r1.epoch, .int .i64 r1.start] 24)) w4.heap.size r1) := heap_alloc_new _ _
  have Q1 : Hid (Below w3.heap.size w3 (w4.alloc (.cells #[.int .i64 r1.gen, .int .i64 r1.journal, .int .i64 r1.area, .int .i64 r1.which, .int .i64 r1.len, .int .u32 r1.sum, .int .i64 r1.epoch, .int .i64 r1.start] 24))) := H34.out.alloc H34.out.size _
  have D1 : Hid (w4.heap.size < (w4.alloc (.cells #[.int .i64 r1.gen, .int .i64 r1.journal, .int .i64 r1.area, .int .i64 r1.which, .int .i64 r1.len, .int .u32 r1.sum, .int .i64 r1.epoch, .int .i64 r1.start] 24)).heap.size) := P1.out.lt
  have cv : (convert 26 9 (.slice a n ca)).run Tryd.prog (w4.alloc (.cells #[.int .i64 r1.gen, .int .i64 r1.journal, .int .i64 r1.area, .int .i64 r1.which, .int .i64 r1.len, .int .u32 r1.sum, .int .i64 r1.epoch, .int .i64 r1.start] 24)) = .ok (.string (strN zs)) (w4.alloc (.cells #[.int .i64 r1.gen, .int .i64 r1.journal, .int .i64 r1.area, .int .i64 r1.which, .int .i64 r1.len, .int .u32 r1.sum, .int .i64 r1.epoch, .int .i64 r1.start] 24)) := conv_octs (P := Tryd.prog) ((HA.out.kept HB3.out).kept Q1.out) _ _ _ Tryd.underlying26 Tryd.underlying5 Tryd.underlying9
  clear hb4 H34
  go_wp2_with fail
  generalize w4.alloc (.cells #[.int .i64 r1.gen, .int .i64 r1.journal, .int .i64 r1.area, .int .i64 r1.which, .int .i64 r1.len, .int .u32 r1.sum, .int .i64 r1.epoch, .int .i64 r1.start] 24) = X1 at P1 Q1 D1 ⊢
  generalize w4.heap.size = q1 at P1 D1 ⊢
  clear cv
  refine (refGet5 zs SA.out HL.out X1).mono ?_
  rintro e w5 ⟨rfl, hb5⟩
  rw [V1.out]
  have H5 : Hid (Below X1.heap.size X1 w5) := hb5
  clear hb5
  go_wp2_with fail
  have P2 : Hid (SupAt (w5.alloc (.cells #[.int .i64 r1.gen, .int .i64 r1.journal, .int .i64 r1.area, .int .i64 r1.which, .int .i64 r1.len, .int .u32 r1.sum, .int .i64 r1.epoch, .int .i64 r1.start] 24)) w5.heap.size r1) := heap_alloc_new _ _
  have Q2 : Hid (Below X1.heap.size X1 (w5.alloc (.cells #[.int .i64 r1.gen, .int .i64 r1.journal, .int .i64 r1.area, .int .i64 r1.which, .int .i64 r1.len, .int .u32 r1.sum, .int .i64 r1.epoch, .int .i64 r1.start] 24))) := H5.out.alloc H5.out.size _
  have HO6 : Hid (Octs (w5.alloc (.cells #[.int .i64 r1.gen, .int .i64 r1.journal, .int .i64 r1.area, .int .i64 r1.which, .int .i64 r1.len, .int .u32 r1.sum, .int .i64 r1.epoch, .int .i64 r1.start] 24)) (.slice a3 n cap3) zs) := (HO3.out.kept Q1.out).kept Q2.out
  have HT6 : Hid (Steps (w5.alloc (.cells #[.int .i64 r1.gen, .int .i64 r1.journal, .int .i64 r1.area, .int .i64 r1.which, .int .i64 r1.len, .int .u32 r1.sum, .int .i64 r1.epoch, .int .i64 r1.start] 24))) := ((HT.out.below HB3.out).below Q1.out).below Q2.out
  refine (newest_v _ zs _ HO6.out HT6.out).mono ?_
  generalize w5.alloc (.cells #[.int .i64 r1.gen, .int .i64 r1.journal, .int .i64 r1.area, .int .i64 r1.which, .int .i64 r1.len, .int .u32 r1.sum, .int .i64 r1.epoch, .int .i64 r1.start] 24) = X2 at P2 Q2 ⊢
  generalize w5.heap.size = q2 at P2 ⊢
  clear HO6 HT6 H5
  rintro e w6 ⟨rfl, hb6⟩
  rw [V2.out]
  have H6 : Hid (Below X2.heap.size X2 w6) := hb6
  have P3 : Hid (SupAt (w6.alloc (.cells #[.int .i64 r2.gen, .int .i64 r2.journal, .int .i64 r2.area, .int .i64 r2.which, .int .i64 r2.len, .int .u32 r2.sum, .int .i64 r2.epoch, .int .i64 r2.start] 24)) w6.heap.size r2) := heap_alloc_new _ _
  have Q3 : Hid (Below X2.heap.size X2 (w6.alloc (.cells #[.int .i64 r2.gen, .int .i64 r2.journal, .int .i64 r2.area, .int .i64 r2.which, .int .i64 r2.len, .int .u32 r2.sum, .int .i64 r2.epoch, .int .i64 r2.start] 24))) := H6.out.alloc H6.out.size _
  have W3 : Hid (Below w3.heap.size w3 (w6.alloc (.cells #[.int .i64 r2.gen, .int .i64 r2.journal, .int .i64 r2.area, .int .i64 r2.which, .int .i64 r2.len, .int .u32 r2.sum, .int .i64 r2.epoch, .int .i64 r2.start] 24))) := (Q1.out.trans (Q2.out.mono Q1.out.size)).trans (Q3.out.mono (Nat.le_trans Q1.out.size Q2.out.size))
  have cv : (convert 26 9 (.slice a n ca)).run Tryd.prog (w6.alloc (.cells #[.int .i64 r2.gen, .int .i64 r2.journal, .int .i64 r2.area, .int .i64 r2.which, .int .i64 r2.len, .int .u32 r2.sum, .int .i64 r2.epoch, .int .i64 r2.start] 24)) = .ok (.string (strN zs)) (w6.alloc (.cells #[.int .i64 r2.gen, .int .i64 r2.journal, .int .i64 r2.area, .int .i64 r2.which, .int .i64 r2.len, .int .u32 r2.sum, .int .i64 r2.epoch, .int .i64 r2.start] 24)) := conv_octs (P := Tryd.prog) ((HA.out.kept HB3.out).kept W3.out) _ _ _ Tryd.underlying26 Tryd.underlying5 Tryd.underlying9
  clear hb6 H6
  go_wp2_with fail
  generalize w6.alloc (.cells #[.int .i64 r2.gen, .int .i64 r2.journal, .int .i64 r2.area, .int .i64 r2.which, .int .i64 r2.len, .int .u32 r2.sum, .int .i64 r2.epoch, .int .i64 r2.start] 24) = X3 at P3 Q3 W3 ⊢
  generalize w6.heap.size = q3 at P3 ⊢
  clear cv
  refine (refNewest5 zs SA.out HL.out X3).mono ?_
  rintro e w7 ⟨rfl, hb7⟩
  rw [V2.out]
  have H7 : Hid (Below X3.heap.size X3 w7) := hb7
  clear hb7
  go_wp2_with fail
  have P4 : Hid (SupAt (w7.alloc (.cells #[.int .i64 r2.gen, .int .i64 r2.journal, .int .i64 r2.area, .int .i64 r2.which, .int .i64 r2.len, .int .u32 r2.sum, .int .i64 r2.epoch, .int .i64 r2.start] 24)) w7.heap.size r2) := heap_alloc_new _ _
  have Q4 : Hid (Below X3.heap.size X3 (w7.alloc (.cells #[.int .i64 r2.gen, .int .i64 r2.journal, .int .i64 r2.area, .int .i64 r2.which, .int .i64 r2.len, .int .u32 r2.sum, .int .i64 r2.epoch, .int .i64 r2.start] 24))) := H7.out.alloc H7.out.size _
  generalize w7.alloc (.cells #[.int .i64 r2.gen, .int .i64 r2.journal, .int .i64 r2.area, .int .i64 r2.which, .int .i64 r2.len, .int .u32 r2.sum, .int .i64 r2.epoch, .int .i64 r2.start] 24) = X4 at P4 Q4 ⊢
  generalize w7.heap.size = q4 at P4 ⊢
  have W4 : Hid (Below w3.heap.size w3 X4) := W3.out.trans (Q4.out.mono W3.out.size)
  have HE : Hid (∀ w', Below X4.heap.size X4 w' → w'.cell? ⟨q1, 0, none⟩ = some (.int .i64 r1.gen) ∧ w'.cell? ⟨q1, 1, none⟩ = some (.int .i64 r1.journal) ∧ w'.cell? ⟨q1, 2, none⟩ = some (.int .i64 r1.area) ∧ w'.cell? ⟨q1, 3, none⟩ = some (.int .i64 r1.which) ∧ w'.cell? ⟨q1, 4, none⟩ = some (.int .i64 r1.len) ∧ w'.cell? ⟨q1, 5, none⟩ = some (.int .u32 r1.sum) ∧ w'.cell? ⟨q1, 6, none⟩ = some (.int .i64 r1.epoch) ∧ w'.cell? ⟨q1, 7, none⟩ = some (.int .i64 r1.start) ∧ w'.cell? ⟨q2, 0, none⟩ = some (.int .i64 r1.gen) ∧ w'.cell? ⟨q2, 1, none⟩ = some (.int .i64 r1.journal) ∧ w'.cell? ⟨q2, 2, none⟩ = some (.int .i64 r1.area) ∧ w'.cell? ⟨q2, 3, none⟩ = some (.int .i64 r1.which) ∧ w'.cell? ⟨q2, 4, none⟩ = some (.int .i64 r1.len) ∧ w'.cell? ⟨q2, 5, none⟩ = some (.int .u32 r1.sum) ∧ w'.cell? ⟨q2, 6, none⟩ = some (.int .i64 r1.epoch) ∧ w'.cell? ⟨q2, 7, none⟩ = some (.int .i64 r1.start) ∧ w'.cell? ⟨q3, 0, none⟩ = some (.int .i64 r2.gen) ∧ w'.cell? ⟨q3, 1, none⟩ = some (.int .i64 r2.journal) ∧ w'.cell? ⟨q3, 2, none⟩ = some (.int .i64 r2.area) ∧ w'.cell? ⟨q3, 3, none⟩ = some (.int .i64 r2.which) ∧ w'.cell? ⟨q3, 4, none⟩ = some (.int .i64 r2.len) ∧ w'.cell? ⟨q3, 5, none⟩ = some (.int .u32 r2.sum) ∧ w'.cell? ⟨q3, 6, none⟩ = some (.int .i64 r2.epoch) ∧ w'.cell? ⟨q3, 7, none⟩ = some (.int .i64 r2.start) ∧ w'.cell? ⟨q4, 0, none⟩ = some (.int .i64 r2.gen) ∧ w'.cell? ⟨q4, 1, none⟩ = some (.int .i64 r2.journal) ∧ w'.cell? ⟨q4, 2, none⟩ = some (.int .i64 r2.area) ∧ w'.cell? ⟨q4, 3, none⟩ = some (.int .i64 r2.which) ∧ w'.cell? ⟨q4, 4, none⟩ = some (.int .i64 r2.len) ∧ w'.cell? ⟨q4, 5, none⟩ = some (.int .u32 r2.sum) ∧ w'.cell? ⟨q4, 6, none⟩ = some (.int .i64 r2.epoch) ∧ w'.cell? ⟨q4, 7, none⟩ = some (.int .i64 r2.start) ∧ (convert 26 9 (.slice a n ca)).run Tryd.prog w' = .ok (.string (strN zs)) w' ∧ (convert 26 9 (.slice a3 n cap3)).run Tryd.prog w' = .ok (.string (strN zs)) w') := fun w' h => by
    have g3 := Q4.out.trans (h.mono Q4.out.size)
    have g2 := Q3.out.trans (g3.mono Q3.out.size)
    have g1 := Q2.out.trans (g2.mono Q2.out.size)
    have g0 := W4.out.trans (h.mono W4.out.size)
    obtain ⟨a0, a1, a2, a3, a4, a5, a6, a7⟩ := (P1.out.same g1 P1.out.lt).cells
    obtain ⟨b0, b1, b2, b3, b4, b5, b6, b7⟩ := (P2.out.same g2 P2.out.lt).cells
    obtain ⟨c0, c1, c2, c3, c4, c5, c6, c7⟩ := (P3.out.same g3 P3.out.lt).cells
    obtain ⟨d0, d1, d2, d3, d4, d5, d6, d7⟩ := (P4.out.same h P4.out.lt).cells
    exact ⟨a0, a1, a2, a3, a4, a5, a6, a7, b0, b1, b2, b3, b4, b5, b6, b7, c0, c1, c2, c3, c4, c5, c6, c7, d0, d1, d2, d3, d4, d5, d6, d7,
      conv_octs (P := Tryd.prog) ((HA.out.kept HB3.out).kept g0) _ _ _ Tryd.underlying26 Tryd.underlying5 Tryd.underlying9,
      conv_octs (P := Tryd.prog) (HO3.out.kept g0) _ _ _ Tryd.underlying26 Tryd.underlying5 Tryd.underlying9⟩
  have HOX : Hid (Octs X4.drew (.slice a3 n cap3) zs) := HO3.out.kept W4.out.drew
  have HTop := top_v (.slice a3 n cap3) zs X4.drew HOX.out
  have HRef := fun w' => refTop5 zs SA.out HL.out w'
  generalize topS zs = T at HTop HRef
  have TP : Hid (Calls Tryd.prog 17 #[.slice a3 n cap3] X4.drew fun e w' => e = .returned (.int .i64 T) ∧ Below X4.drew.heap.size X4.drew w') := HTop
  have TR : Hid (∀ w, Calls Tryd.prog 18 #[.string (strN zs)] w fun e w' => e = .returned (.int .i64 T) ∧ Below w.heap.size w w') := HRef
  clear HTop HRef
  go_region_held (fun w' => w'.cell? ⟨q1, 0, none⟩ = some (.int .i64 r1.gen) ∧ w'.cell? ⟨q1, 1, none⟩ = some (.int .i64 r1.journal) ∧ w'.cell? ⟨q1, 2, none⟩ = some (.int .i64 r1.area) ∧ w'.cell? ⟨q1, 3, none⟩ = some (.int .i64 r1.which) ∧ w'.cell? ⟨q1, 4, none⟩ = some (.int .i64 r1.len) ∧ w'.cell? ⟨q1, 5, none⟩ = some (.int .u32 r1.sum) ∧ w'.cell? ⟨q1, 6, none⟩ = some (.int .i64 r1.epoch) ∧ w'.cell? ⟨q1, 7, none⟩ = some (.int .i64 r1.start) ∧ w'.cell? ⟨q2, 0, none⟩ = some (.int .i64 r1.gen) ∧ w'.cell? ⟨q2, 1, none⟩ = some (.int .i64 r1.journal) ∧ w'.cell? ⟨q2, 2, none⟩ = some (.int .i64 r1.area) ∧ w'.cell? ⟨q2, 3, none⟩ = some (.int .i64 r1.which) ∧ w'.cell? ⟨q2, 4, none⟩ = some (.int .i64 r1.len) ∧ w'.cell? ⟨q2, 5, none⟩ = some (.int .u32 r1.sum) ∧ w'.cell? ⟨q2, 6, none⟩ = some (.int .i64 r1.epoch) ∧ w'.cell? ⟨q2, 7, none⟩ = some (.int .i64 r1.start) ∧ w'.cell? ⟨q3, 0, none⟩ = some (.int .i64 r2.gen) ∧ w'.cell? ⟨q3, 1, none⟩ = some (.int .i64 r2.journal) ∧ w'.cell? ⟨q3, 2, none⟩ = some (.int .i64 r2.area) ∧ w'.cell? ⟨q3, 3, none⟩ = some (.int .i64 r2.which) ∧ w'.cell? ⟨q3, 4, none⟩ = some (.int .i64 r2.len) ∧ w'.cell? ⟨q3, 5, none⟩ = some (.int .u32 r2.sum) ∧ w'.cell? ⟨q3, 6, none⟩ = some (.int .i64 r2.epoch) ∧ w'.cell? ⟨q3, 7, none⟩ = some (.int .i64 r2.start) ∧ w'.cell? ⟨q4, 0, none⟩ = some (.int .i64 r2.gen) ∧ w'.cell? ⟨q4, 1, none⟩ = some (.int .i64 r2.journal) ∧ w'.cell? ⟨q4, 2, none⟩ = some (.int .i64 r2.area) ∧ w'.cell? ⟨q4, 3, none⟩ = some (.int .i64 r2.which) ∧ w'.cell? ⟨q4, 4, none⟩ = some (.int .i64 r2.len) ∧ w'.cell? ⟨q4, 5, none⟩ = some (.int .u32 r2.sum) ∧ w'.cell? ⟨q4, 6, none⟩ = some (.int .i64 r2.epoch) ∧ w'.cell? ⟨q4, 7, none⟩ = some (.int .i64 r2.start) ∧ (convert 26 9 (.slice a n ca)).run Tryd.prog w' = .ok (.string (strN zs)) w' ∧ (convert 26 9 (.slice a3 n cap3)).run Tryd.prog w' = .ok (.string (strN zs)) w') (first | exact HE.out _ (Below.refl _ _).drew | exact HE.out _ HBa.out | exact HE.out _ HBd.out) (first
    | (go_at_call 17; refine TP.out.mono ?_; rintro e wa ⟨rfl, hba⟩; have HBa : Hid (Below X4.heap.size X4 wa) := below_undrew hba; clear hba)
    | (go_at_call 18; refine (TR.out wa).mono ?_; rintro e wd ⟨rfl, hbd⟩; have HBd : Hid (Below X4.heap.size X4 wd) := HBa.out.trans (hbd.mono HBa.out.size); clear hbd))
  all_goals
    go_wp2
    go_ret
    exact ⟨rfl, (HB3.out.trans (W4.out.mono HB3.out.size)).trans (HBd.out.mono (Nat.le_trans HB3.out.size W4.out.size))⟩

set_option maxHeartbeats 400000 in
theorem superGets_walk (a0 : Option Addr) (len0 cap0 : Nat) (z0 : List Int) (w : World) (ht : Steps w) (f0 : IsRow .u8 w a0 len0 cap0 z0) :
    Calls Tryd.prog 4 #[.slice a0 len0 cap0] w fun e w' => e = .returned (.bool true) ∧ Below w.heap.size w w' := by
  have h0 := Octs.ofRow f0
  have l0 := h0.lenLe
  have HT : Hid (Steps w) := ht
  clear f0
  by_cases hn : len0 ≤ 600
  · exact gets_main a0 len0 cap0 _ w h0 ht hn
  · clear h0 ht
    have hn' : (600 : Int) < len0 := by omega
    go_enter Tryd.func4, Tryd.ntmps4
    go_wp2_with fail
    refine (awake5 _ HT.out).mono ?_
    rintro e w1 ⟨rfl, hb1⟩
    have HB1 : Hid (Below w.heap.size w w1) := hb1
    clear hb1
    go_wp2_with fail
    refine (awake5 _ (HT.out.below HB1.out)).mono ?_
    rintro e w2 ⟨rfl, hb2⟩
    go_wp2
    go_ret
    exact ⟨rfl, HB1.out.trans (hb2.mono HB1.out.size)⟩
end Go.Proofs.YtgbibhbmcbbbhaaDoor
