/- The law RecordJoins, walked, over the bundle of the program's contracts. -/
import Derived.Test.YtndeknkfljnjoaaDoorRec6
namespace Go.Proofs.YtndeknkfljnjoaaDoor
open Go.RowKit
set_option linter.unusedVariables false

set_option maxHeartbeats 1000000 in
set_option maxRecDepth 20000 in
theorem joins_main (R : Rec6) (a : Option Addr) (n ca : Nat) (zs : List Nat) (e m : Int) (w : World) (ha : Octs w (.slice a n ca) zs) (ht : Steps w) (hn : n ≤ 3000) (he : -9223372036854775808 ≤ e ∧ e ≤ 9223372036854775807) (hm : -9223372036854775808 ≤ m ∧ m ≤ 9223372036854775807) :
    Calls Tryd.prog 5 #[.slice a n ca, .agg #[.int .i64 e, .int .i64 m]] w fun x w' => x = .returned (.bool true) ∧ Below w.heap.size w w' := by
  obtain ⟨i0, hi, hz0, hz1, hz2⟩ := info_parts Tryd.infoU8'
  have HR : Hid Rec6 := R
  have HA : Hid (Octs w (.slice a n ca) zs) := ha
  have HT : Hid (Steps w) := ht
  have LA : Hid (zs.length = n) := ha.lenEq
  have SA : Hid (∀ z ∈ zs, z < 256) := ha.small
  have HE : Hid ((-9223372036854775808 ≤ e ∧ e ≤ 9223372036854775807) ∧ -9223372036854775808 ≤ m ∧ m ≤ 9223372036854775807) := ⟨he, hm⟩
  have HRJ : Hid (∀ w, Calls Tryd.prog 18 #[.string (strN zs), .int .i64 e, .int .i64 m] w fun x w' => x = .returned (.tuple #[.string (strN (joinP (joinS zs e m))), .int .i64 (joinK (joinS zs e m) : Nat)]) ∧ Below w.heap.size w w') := fun w => by
    have := refJoin6 zs SA.out (by rw [LA.out]; omega) e m w
    rwa [joinV_eq] at this
  have HPJ : Hid (∀ v w, Octs w v zs → Steps w → Calls Tryd.prog 17 #[v, .int .i64 e, .int .i64 m] w fun x w' => ∃ u, x = .returned (.tuple #[u, .int .i64 (joinK (joinS zs e m) : Nat)]) ∧ Octs w' u (joinP (joinS zs e m)) ∧ Below w.heap.size w w') := fun v w h hs => R.join v zs e m w h (by rw [LA.out]; omega) hs he hm
  clear ha ht R he hm
  generalize joinP (joinS zs e m) = P at *
  generalize joinK (joinS zs e m) = K at *
  have hn' : ¬ (3000 : Int) < n := by omega
  have I0 : Hid ((w.alloc (.cells #[.int .i64 e, .int .i64 m] 36)).heap[w.heap.size]? = some (.cells #[.int .i64 e, .int .i64 m] 36 (0, 0))) := heap_alloc_new _ _
  go_enter Tryd.func5, Tryd.ntmps5
  go_wp2_with fail
  refine (awake6 HR.out _).mono ?_
  rintro x w1 ⟨rfl, hb1⟩
  have I1 : Hid (w1.heap[w.heap.size]? = some (.cells #[.int .i64 e, .int .i64 m] 36 (0, 0))) := (hb1.block _ (by simp)).trans I0.out
  have HB1 : Hid (Below w.heap.size w w1) := ((Below.refl _ _).alloc (Nat.le_refl _) _).trans (hb1.mono (by simp))
  have hsz1 : w.heap.size ≤ w1.heap.size := HB1.out.size
  clear hb1 I0
  go_wp2_with (at_builtin; refine wpList_append_octs _ rfl _ _ 22 rfl w1.heap.size 5 i0 Tryd.underlying22 hi hz0 hz1 hz2 _ 0 [] rfl (World.ownsRow_made _ #[] 0 (Nat.le_refl _) (by decide) rfl) _ zs rfl ((HA.out.kept HB1.out).alloc _) ?d1 ?d2 ?_)
  case d1 => rw [LA.out]; omega
  case d2 => simp
  intro v3 w3 hown3 hg3
  have HD3 : Hid (Below w1.heap.size w1 w3) := ((Below.refl _ _).alloc (Nat.le_refl _) _).trans (below_grown (World.ownsRow_made _ #[] 0 (Nat.le_refl _) (by decide) rfl) hg3 (by simp))
  have HB3 : Hid (Below w.heap.size w w3) := HB1.out.trans (HD3.out.mono HB1.out.size)
  have HO3 : Hid (Octs w3 v3 zs) := Octs.owned hown3 SA.out
  have I3 : Hid (w3.heap[w.heap.size]? = some (.cells #[.int .i64 e, .int .i64 m] 36 (0, 0))) := (HD3.out.block _ (lt_of_heap I1.out)).trans I1.out
  obtain ⟨a3, cap3, rfl⟩ := HO3.out.shape
  rw [LA.out] at HO3 ⊢
  clear hown3 hg3
  have c30 : w3.cell? ⟨w.heap.size, 0, none⟩ = some (.int .i64 e) := by rw [cell_of_row _ _ _ _ _ _ I3.out]; rfl
  have c31 : w3.cell? ⟨w.heap.size, 1, none⟩ = some (.int .i64 m) := by rw [cell_of_row _ _ _ _ _ _ I3.out]; rfl
  go_wp2_with fail
  refine (HPJ.out _ w3 HO3.out (HT.out.below HB3.out)).mono ?_
  rintro x w4 ⟨u, rfl, hu, hb4⟩
  obtain ⟨a4, cap4, rfl⟩ := hu.shape
  have HU4 : Hid (Octs w4 (.slice a4 P.length cap4) P) := hu
  have HD4 : Hid (Below w3.heap.size w3 w4) := hb4
  have HB4 : Hid (Below w.heap.size w w4) := HB3.out.trans (hb4.mono HB3.out.size)
  have I4 : Hid (w4.heap[w.heap.size]? = some (.cells #[.int .i64 e, .int .i64 m] 36 (0, 0))) := (hb4.block _ (lt_of_heap I3.out)).trans I3.out
  clear hu hb4 c30 c31
  have c40 : w4.cell? ⟨w.heap.size, 0, none⟩ = some (.int .i64 e) := by rw [cell_of_row _ _ _ _ _ _ I4.out]; rfl
  have c41 : w4.cell? ⟨w.heap.size, 1, none⟩ = some (.int .i64 m) := by rw [cell_of_row _ _ _ _ _ _ I4.out]; rfl
  have cv4 : (convert 22 9 (.slice a n ca)).run Tryd.prog w4 = .ok (.string (strN zs)) w4 := conv_octs (P := Tryd.prog) (HA.out.kept HB4.out) _ _ _ Tryd.underlying22 Tryd.underlying5 Tryd.underlying9
  go_wp2_with fail
  refine (HRJ.out w4).mono ?_
  rintro x w5 ⟨rfl, hb5⟩
  have HB5 : Hid (Below w.heap.size w w5) := HB4.out.trans (hb5.mono HB4.out.size)
  have cv5 : (convert 22 9 (.slice a n ca)).run Tryd.prog w5 = .ok (.string (strN zs)) w5 := conv_octs (P := Tryd.prog) (HA.out.kept HB5.out) _ _ _ Tryd.underlying22 Tryd.underlying5 Tryd.underlying9
  have cu5 : (convert 22 9 (.slice a4 P.length cap4)).run Tryd.prog w5 = .ok (.string (strN P)) w5 := conv_octs (P := Tryd.prog) (HU4.out.kept hb5) _ _ _ Tryd.underlying22 Tryd.underlying5 Tryd.underlying9
  have ci5 : (convert 22 9 (.slice a3 n cap3)).run Tryd.prog w5 = .ok (.string (strN zs)) w5 := conv_octs (P := Tryd.prog) ((HO3.out.kept HD4.out).kept hb5) _ _ _ Tryd.underlying22 Tryd.underlying5 Tryd.underlying9
  clear hb5 c40 c41 cv4
  go_wp2
  go_ret
  exact ⟨rfl, HB5.out⟩

set_option maxHeartbeats 400000 in
theorem recordJoins_of (R : Rec6) (a0 : Option Addr) (len0 cap0 : Nat) (z0 : List Int) (z1 : List Int) (w : World) (ht : Steps w) (f0 : IsRow .u8 w a0 len0 cap0 z0) (g1 : z1.length = 2) (f1 : ∀ z ∈ z1, (Lit.int .i64 z).wf = true) :
    Calls Tryd.prog 5 #[.slice a0 len0 cap0, .agg (z1.map (Value.int .i64)).toArray] w fun x w' => x = .returned (.bool true) ∧ Below w.heap.size w w' := by
  have h0 := Octs.ofRow f0
  have l0 := h0.lenLe
  obtain ⟨e, m, rfl⟩ := list2 g1
  have he : -9223372036854775808 ≤ e ∧ e ≤ 9223372036854775807 := by simpa [Lit.wf, IntKind.min, IntKind.max, IntKind.signed, IntKind.bits] using f1 e (by simp)
  have hm : -9223372036854775808 ≤ m ∧ m ≤ 9223372036854775807 := by simpa [Lit.wf, IntKind.min, IntKind.max, IntKind.signed, IntKind.bits] using f1 m (by simp)
  have HR : Hid Rec6 := R
  clear f0 f1 g1
  show Calls Tryd.prog 5 #[.slice a0 len0 cap0, .agg #[.int .i64 e, .int .i64 m]] w _
  by_cases hn : len0 ≤ 3000
  · exact joins_main R a0 len0 cap0 _ e m w h0 ht hn he hm
  · clear h0 ht R
    have hn' : (3000 : Int) < len0 := by omega
    go_enter Tryd.func5, Tryd.ntmps5
    go_wp2_with fail
    refine (awake6 HR.out _).mono ?_
    rintro x w1 ⟨rfl, hb1⟩
    have HB1 : Hid (Below w.heap.size w w1) := ((Below.refl _ _).alloc (Nat.le_refl _) _).trans (hb1.mono (by simp))
    clear hb1
    go_wp2_with fail
    refine (awake6 HR.out _).mono ?_
    rintro x w2 ⟨rfl, hb2⟩
    go_wp2
    go_ret
    exact ⟨rfl, HB1.out.trans (hb2.mono HB1.out.size)⟩
end Go.Proofs.YtndeknkfljnjoaaDoor
