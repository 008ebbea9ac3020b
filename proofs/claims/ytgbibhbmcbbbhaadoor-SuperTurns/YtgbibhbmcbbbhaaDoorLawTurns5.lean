/- The law SuperTurns, walked. (Written by wip/mk_laws5.py.) -/
import Derived.Test.YtgbibhbmcbbbhaaDoorLawTorn5
import Derived.Test.YtgbibhbmcbbbhaaDoorMathTurns5
import Derived.Test.YtgbibhbmcbbbhaaDoorWalkRefNew5
namespace Go.Proofs.YtgbibhbmcbbbhaaDoor
open Go.RowKit
set_option linter.unusedVariables false


theorem Only.sup {w w' : World} {b p : Nat} {r : Sup} (h : Only p w w') (hs : SupAt w b r) (hn : b ≠ p) : SupAt w' b r := (h.heap hs.lt hn).trans hs

set_option maxHeartbeats 1000000 in
set_option maxRecDepth 20000 in
theorem turns_out (g : Int) (s : Sup) (cut : Int) (w : World) (ht : Steps w) (hs : s.Fits) (hg : g < 1 ∨ 140737488355328 < g) : Calls Tryd.prog 5 #[.int .i64 g, sval s, .int .i64 cut] w fun e w' => e = .returned (.bool true) ∧ Below w.heap.size w w' := by
  have HT : Hid (Steps w) := ht
  clear ht hs
  by_cases h1 : g < 1
  · clear hg
    go_enter Tryd.func5, Tryd.ntmps5
    go_wp2_with fail
    refine (awake5 _ (HT.out.alloc _)).mono ?_
    rintro e w1 ⟨rfl, hb1⟩
    have B1 : Hid (Below w.heap.size w w1) := ((Below.refl _ _).alloc (Nat.le_refl _) _).trans (hb1.mono (by simp))
    clear hb1
    go_wp2_with fail
    refine (awake5 _ (HT.out.below B1.out)).mono ?_
    rintro e w2 ⟨rfl, hb2⟩
    go_wp2
    go_ret
    exact ⟨rfl, B1.out.trans (hb2.mono B1.out.size)⟩
  · have h2 : 140737488355328 < g := by omega
    clear hg
    go_enter Tryd.func5, Tryd.ntmps5
    go_wp2_with fail
    refine (awake5 _ (HT.out.alloc _)).mono ?_
    rintro e w1 ⟨rfl, hb1⟩
    have B1 : Hid (Below w.heap.size w w1) := ((Below.refl _ _).alloc (Nat.le_refl _) _).trans (hb1.mono (by simp))
    clear hb1
    go_wp2_with fail
    refine (awake5 _ (HT.out.below B1.out)).mono ?_
    rintro e w2 ⟨rfl, hb2⟩
    go_wp2
    go_ret
    exact ⟨rfl, B1.out.trans (hb2.mono B1.out.size)⟩

set_option maxHeartbeats 1000000 in
set_option maxRecDepth 20000 in
theorem turns_wrong (g : Int) (s : Sup) (cut : Int) (w : World) (ht : Steps w) (hs : s.Fits) (h1 : 1 ≤ g) (h2 : g ≤ 140737488355328) (u : Sup) (hu : u = { s with gen := g + 1 }) (fu : u.Fits) (hok : okS u = false) : Calls Tryd.prog 5 #[.int .i64 g, sval s, .int .i64 cut] w fun e w' => e = .returned (.bool true) ∧ Below w.heap.size w w' := by
  have HT : Hid (Steps w) := ht
  have HU : Hid u.Fits := fu
  have HUE : Hid (u = { s with gen := g + 1 }) := hu
  clear ht hs fu hu
  have h1' : ¬ g < 1 := by omega
  have h2' : ¬ 140737488355328 < g := by omega
  have hwr : IntKind.i64.wrap (g + 1) = g + 1 := by rw [IntKind.wrap_i64]; omega
  go_enter Tryd.func5, Tryd.ntmps5
  go_wp2_with fail
  refine (awake5 _ (HT.out.alloc _)).mono ?_
  rintro e w1 ⟨rfl, hb1⟩
  have S1 : Hid (SupAt w1 w.heap.size s) := SupAt.same (heap_alloc_new w _) hb1 (by simp)
  have B1 : Hid (Below w.heap.size w w1) := ((Below.refl _ _).alloc (Nat.le_refl _) _).trans (hb1.mono (by simp))
  clear hb1
  have fz : w1.frozen? ⟨w.heap.size, 0, none⟩ = false := S1.out.frozen 0
  obtain ⟨k0, k1, k2, k3, k4, k5, k6, k7⟩ := S1.out.cells
  have U1 : Hid (SupAt (w1.setCell ⟨w.heap.size, 0, none⟩ (.int .i64 (g + 1))) w.heap.size { s with gen := g + 1 }) := (heap_set_row S1.out 0 _).trans rfl
  have C1 : Hid (Below w.heap.size w (w1.setCell ⟨w.heap.size, 0, none⟩ (.int .i64 (g + 1)))) := B1.out.setCell (p := ⟨w.heap.size, 0, none⟩) (Nat.le_refl _) _
  rw [← HUE.out] at U1
  go_wp2_with fail
  generalize w1.setCell ⟨w.heap.size, 0, none⟩ (.int .i64 (g + 1)) = W1 at *
  clear k0 k1 k2 k3 k4 k5 k6 k7 fz S1 B1
  have HR : Calls Tryd.prog 11 #[.agg #[.int .i64 (g + 1), .int .i64 s.journal, .int .i64 s.area, .int .i64 s.which, .int .i64 s.len, .int .u32 s.sum, .int .i64 s.epoch, .int .i64 s.start]] W1 (fun e w' => e = .returned (.bool (okS u)) ∧ Below W1.heap.size W1 w') := by
    have hu := HUE.out
    clear U1 C1 HUE
    subst hu
    exact refRight5 _ HU.out W1
  refine HR.mono ?_
  clear HR
  rintro e w2 ⟨rfl, hb2⟩
  rw [hok]
  have U2 : Hid (SupAt w2 w.heap.size u) := U1.out.same hb2 U1.out.lt
  have B2 : Hid (Below w.heap.size w w2) := C1.out.trans (hb2.mono C1.out.size)
  clear hb2 U1 C1
  go_wp2
  go_ret
  exact ⟨rfl, B2.out⟩

theorem small_app {x y : List Nat} (hx : ∀ z ∈ x, z < 256) (hy : ∀ z ∈ y, z < 256) : ∀ z ∈ x ++ y, z < 256 := fun z hz => by
  rcases List.mem_append.1 hz with h | h
  · exact hx z h
  · exact hy z h

set_option maxHeartbeats 1000000 in
set_option maxRecDepth 20000 in
theorem turns_main0 (g : Int) (s : Sup) (cut : Int) (w : World) (ht : Steps w) (hs : s.Fits) (h1 : 1 ≤ g) (h2 : g ≤ 140737488355328) (hpar : g % 2 = 0) (u : Sup) (hu : u = { s with gen := g + 1 }) (fu : u.Fits) (hok : okS u = true) : Calls Tryd.prog 5 #[.int .i64 g, sval s, .int .i64 cut] w fun e w' => e = .returned (.bool true) ∧ Below w.heap.size w w' := by
  have HT : Hid (Steps w) := ht
  have HU : Hid u.Fits := fu
  have hug : u.gen = g + 1 := by rw [hu]
  have HUE : Hid (u = { s with gen := g + 1 }) := hu
  have HUG : Hid (u.gen = g + 1) := hug
  obtain ⟨K, hK, hKe⟩ := rem_at cut 128 (by decide) (by decide)
  have hK2 : K ≤ 128 := by omega
  have hK3 : (K : Int) ≤ 128 := by omega
  have hrf := plainS_fits g h1 (by omega)
  have hrk := plainS_ok g h1 (by omega)
  have hrg : (plainS g).gen = g := rfl
  have HPL := fun w' => plain5 g w'
  obtain ⟨M1, ⟨v, M2, hv⟩, M3⟩ := turns_even (plainS g) u hrf fu hrk hok (by rw [hrg]; exact hpar) (by rw [hrg]; exact hug) K hK2
  have HPl : Hid (∀ w, Calls Tryd.prog 19 #[.int .i64 g] w fun e w' => e = .returned (sval (plainS g)) ∧ Below w.heap.size w w') := HPL
  have HPr : Hid (∀ w', Steps w' → Calls Tryd.prog 9 #[sval (plainS g)] w' fun e w'' => ∃ p, e = .returned (.tuple #[.slice (some ⟨p, 0, none⟩) 128 128, .int .i64 0]) ∧ w''.heap[p]? = some (.cells (u8s (sect (plainS g))).toArray 43 (0, 0)) ∧ w'.heap.size ≤ p ∧ Below w'.heap.size w' w'') := fun w' h => put_ok (plainS g) hrf hrk w' h
  have HAL : Hid ((sect (plainS g)).length = 128) := sect_length _
  have HAS : Hid (∀ z ∈ sect (plainS g), z < 256) := sect_small _
  have HBL : Hid ((sect u).length = 128) := sect_length _
  have HBS : Hid (∀ z ∈ sect u, z < 256) := sect_small _
  have HPu : Hid (∀ w', Steps w' → Calls Tryd.prog 9 #[sval u] w' fun e w'' => ∃ p, e = .returned (.tuple #[.slice (some ⟨p, 0, none⟩) 128 128, .int .i64 0]) ∧ w''.heap[p]? = some (.cells (u8s (sect u)).toArray 43 (0, 0)) ∧ w'.heap.size ≤ p ∧ Below w'.heap.size w' w'') := fun w' h => put_ok u fu hok w' h
  have HRG : Hid ((plainS g).gen = g) := hrg
  clear hrg hug hu
  generalize plainS g = r at *
  have N1 : Hid (newestS (sect r ++ zl 128) = some r) := M1
  have N2 : Hid (newestS (sect r ++ torn (sect u) (zl 128) K) = some v) := M2
  have N3 : Hid (newestS (sect r ++ sect u) = some u) := M3
  have HVV : Hid (v = r ∨ v = u) := hv
  generalize sect r = A at *
  generalize sect u = Bq at *
  have E1 : Hid (splice (zl 256) 0 A = A ++ zl 128) := splice_a1 A HAL.out
  have E2 : Hid (splice (A ++ zl 128) 128 (Bq.take K) = A ++ torn Bq (zl 128) K) := splice_a2 A Bq HAL.out HBL.out K hK2
  have E3 : Hid (splice (A ++ torn Bq (zl 128) K) 128 Bq = A ++ Bq) := splice_a3 A _ Bq HAL.out (by rw [torn_length _ _ _ (by rw [HBL.out, zl_length]) (by rw [HBL.out]; exact hK2), HBL.out]) HBL.out
  have I1L : Hid ((A ++ zl 128).length = 256) := by unfold Hid; rw [List.length_append, zl_length, HAL.out]
  have I2L : Hid ((A ++ torn Bq (zl 128) K).length = 256) := by unfold Hid; rw [List.length_append, torn_length _ _ _ (by rw [HBL.out, zl_length]) (by rw [HBL.out]; exact hK2), HBL.out, HAL.out]
  have I3L : Hid ((A ++ Bq).length = 256) := by unfold Hid; rw [List.length_append, HBL.out, HAL.out]
  have I1S : Hid (∀ z ∈ A ++ zl 128, z < 256) := small_app HAS.out (zl_small _)
  have hts : ∀ z ∈ torn Bq (zl 128) K, z < 256 := small_app (fun z h => HBS.out z (List.mem_of_mem_take h)) (fun z h => zl_small _ z (List.mem_of_mem_drop h))
  have I2S : Hid (∀ z ∈ A ++ torn Bq (zl 128) K, z < 256) := small_app HAS.out hts
  have I3S : Hid (∀ z ∈ A ++ Bq, z < 256) := small_app HAS.out HBS.out
  clear M1 M2 M3 hv hrf hrk HPL hts
  generalize A ++ zl 128 = J1 at *
  generalize A ++ torn Bq (zl 128) K = J2 at *
  generalize A ++ Bq = J3 at *
  clear ht hs fu
  have h1' : ¬ g < 1 := by omega
  have h2' : ¬ 140737488355328 < g := by omega
  have hwr : IntKind.i64.wrap (g + 1) = g + 1 := by rw [IntKind.wrap_i64]; omega
  have hand : bits .and .i64 g 1 = 0 := by rw [and_one_i64 g (by omega) (by omega)]; exact hpar
  have hmk : ∀ W : World, (Instr.makeSlice 26 (.int .i64 256) (.int .i64 256)).run Tryd.prog W = .ok (.slice (some ⟨W.heap.size, 0, none⟩) 256 256) (W.alloc (.cells (u8s (zl 256)).toArray 5)) := Tryd.make5 256 (by decide)
  have HZL : Hid ((zl 256).length = 256) := zl_length _
  have hKe2 : (IntKind.i64.wrap (cut.tmod 128 + 128)).tmod 128 = (K : Int) := by
    have h3 := Int.tmod_lt_of_pos cut (show (0 : Int) < 128 by decide)
    have h4 := Int.lt_tmod_of_pos cut (show (0 : Int) < 128 by decide)
    rw [show IntKind.i64.wrap (cut.tmod 128 + 128) = wrap64 (cut.tmod 128 + 128) by rw [IntKind.wrap_i64]; unfold wrap64; omega]
    exact hKe
  have hK0 : (0 : Int) ≤ (K : Int) := by omega
  have hwo : IntKind.i64.wrap 128 = 128 := by rw [IntKind.wrap_i64]; omega
  generalize zl 256 = Z at *
  go_enter Tryd.func5, Tryd.ntmps5
  go_wp2_with fail
  refine (awake5 _ (HT.out.alloc _)).mono ?_
  rintro e w1 ⟨rfl, hb1⟩
  have S1 : Hid (SupAt w1 w.heap.size s) := SupAt.same (heap_alloc_new w _) hb1 (by simp)
  have B1 : Hid (Below w.heap.size w w1) := ((Below.refl _ _).alloc (Nat.le_refl _) _).trans (hb1.mono (by simp))
  clear hb1
  have fz : w1.frozen? ⟨w.heap.size, 0, none⟩ = false := S1.out.frozen 0
  obtain ⟨k0, k1, k2, k3, k4, k5, k6, k7⟩ := S1.out.cells
  have U1 : Hid (SupAt (w1.setCell ⟨w.heap.size, 0, none⟩ (.int .i64 (g + 1))) w.heap.size { s with gen := g + 1 }) := (heap_set_row S1.out 0 _).trans rfl
  have C1 : Hid (Below w.heap.size w (w1.setCell ⟨w.heap.size, 0, none⟩ (.int .i64 (g + 1)))) := B1.out.setCell (p := ⟨w.heap.size, 0, none⟩) (Nat.le_refl _) _
  rw [← HUE.out] at U1
  go_wp2_with fail
  generalize w1.setCell ⟨w.heap.size, 0, none⟩ (.int .i64 (g + 1)) = W1 at *
  clear k0 k1 k2 k3 k4 k5 k6 k7 fz S1 B1
  have HR : Calls Tryd.prog 11 #[.agg #[.int .i64 (g + 1), .int .i64 s.journal, .int .i64 s.area, .int .i64 s.which, .int .i64 s.len, .int .u32 s.sum, .int .i64 s.epoch, .int .i64 s.start]] W1 (fun e w' => e = .returned (.bool (okS u)) ∧ Below W1.heap.size W1 w') := by
    have hu := HUE.out
    clear U1 C1 HUE
    subst hu
    exact refRight5 _ HU.out W1
  refine HR.mono ?_
  clear HR
  rintro e w2 ⟨rfl, hb2⟩
  rw [hok]
  have U2 : Hid (SupAt w2 w.heap.size u) := U1.out.same hb2 U1.out.lt
  have B2 : Hid (Below w.heap.size w w2) := C1.out.trans (hb2.mono C1.out.size)
  clear hb2 U1 C1
  obtain ⟨k0, k1, k2, k3, k4, k5, k6, k7⟩ := U2.out.cells
  go_wp2_with fail
  refine (HPl.out w2).mono ?_
  rintro e w3 ⟨rfl, hb3⟩
  have U3 : Hid (SupAt w3 w.heap.size u) := U2.out.same hb3 U2.out.lt
  have B3 : Hid (Below w.heap.size w w3) := B2.out.trans (hb3.mono B2.out.size)
  clear hb3 k0 k1 k2 k3 k4 k5 k6 k7
  go_wp2_with fail
  refine (HPr.out w3 (HT.out.below B3.out)).mono ?_
  rintro e w4 ⟨p, rfl, g4, _, hb4⟩
  have U4 : Hid (SupAt w4 w.heap.size u) := U3.out.same hb4 U3.out.lt
  have B4 : Hid (Below w.heap.size w w4) := B3.out.trans (hb4.mono B3.out.size)
  have G4 : Hid (w4.heap[p]? = some (.cells (u8s A).toArray 43 (0, 0))) := g4
  clear g4 hb4
  obtain ⟨k0, k1, k2, k3, k4, k5, k6, k7⟩ := U4.out.cells
  go_wp2_with fail
  refine (HPu.out w4 (HT.out.below B4.out)).mono ?_
  rintro e w5 ⟨q, rfl, g5, _, hb5⟩
  have U5 : Hid (SupAt w5 w.heap.size u) := U4.out.same hb5 U4.out.lt
  have B5 : Hid (Below w.heap.size w w5) := B4.out.trans (hb5.mono B4.out.size)
  have GA : Hid (w5.heap[p]? = some (.cells (u8s A).toArray 43 (0, 0))) := row_same G4.out hb5 (lt_of_heap G4.out)
  have GB : Hid (w5.heap[q]? = some (.cells (u8s Bq).toArray 43 (0, 0))) := g5
  clear g5 hb5 k0 k1 k2 k3 k4 k5 k6 k7 G4
  have OA : Hid (∀ w', Below w5.heap.size w5 w' → Octs w' (.slice (some ⟨p, 0, none⟩) 128 128) A) := fun w' h => octs_row0 (row_same GA.out h (lt_of_heap GA.out)) HAS.out HAL.out (by decide)
  have OB : Hid (∀ w', Below w5.heap.size w5 w' → Octs w' (.slice (some ⟨q, 0, none⟩) 128 128) Bq) := fun w' h => octs_row0 (row_same GB.out h (lt_of_heap GB.out)) HBS.out HBL.out (by decide)
  have OC : Hid (∀ w', Below w5.heap.size w5 w' → Octs w' (.slice (some ⟨q, 0, none⟩) K 128) (Bq.take K)) := fun w' h => octs_first (row_same GB.out h (lt_of_heap GB.out)) HBS.out HBL.out K hK2
  have US : Hid (∀ w', Below w5.heap.size w5 w' → SupAt w' w.heap.size u) := fun w' h => U5.out.same h U5.out.lt
  have TS : Hid (∀ w', Below w5.heap.size w5 w' → Steps w') := fun w' h => (HT.out.below B5.out).below h
  have D6 : Hid (Below w5.heap.size w5 (w5.alloc (.cells (u8s Z).toArray 5))) := (Below.refl _ _).alloc (Nat.le_refl _) _
  have G6 : Hid ((w5.alloc (.cells (u8s Z).toArray 5)).heap[w5.heap.size]? = some (.cells (u8s Z).toArray 5 (0, 0))) := heap_alloc_new _ _
  clear GA GB U3 U4 U5 B3 B4 U2
  go_wp2_with ((with_reducible show wpList _ _ _ (Oper.mk _ (Op.call ⟨Callee.builtin Builtin.copy, _, _⟩) _ _ _ _ :: _) _ _); go_must (refine wpList_copy_octs rfl _ _ 26 26 rfl 5 Tryd.underlying26 Tryd.sizeU85 w5.heap.size 0 256 256 rfl _ A rfl (OA.out _ D6.out) Z 5 G6.out (by rw [HAL.out]; decide) (by rw [HAL.out, HZL.out]; decide) w5.heap.size w5 D6.out (Nat.le_refl _) ?_))
  intro w7 G7 D7 _
  rw [E1.out] at G7
  clear D6 G6
  go_wp2_with fail
  refine (newest_v _ J1 w7 (octs_row0 G7.out I1S.out I1L.out (by decide)) (TS.out _ D7.out)).mono ?_
  rintro e y8 ⟨rfl, hb8⟩
  have HV1 : Hid (toldV (some r) = .tuple #[.agg #[.int .i64 r.gen, .int .i64 r.journal, .int .i64 r.area, .int .i64 r.which, .int .i64 r.len, .int .u32 r.sum, .int .i64 r.epoch, .int .i64 r.start], .bool true]) := rfl
  rw [N1.out, HV1.out]
  have X1 : Hid (SupAt (y8.alloc (.cells #[.int .i64 r.gen, .int .i64 r.journal, .int .i64 r.area, .int .i64 r.which, .int .i64 r.len, .int .u32 r.sum, .int .i64 r.epoch, .int .i64 r.start] 24)) y8.heap.size r) := heap_alloc_new _ _
  have X2 : Hid (Below w7.heap.size w7 (y8.alloc (.cells #[.int .i64 r.gen, .int .i64 r.journal, .int .i64 r.area, .int .i64 r.which, .int .i64 r.len, .int .u32 r.sum, .int .i64 r.epoch, .int .i64 r.start] 24))) := hb8.alloc hb8.size _
  have X3 : Hid (Below w5.heap.size w5 (y8.alloc (.cells #[.int .i64 r.gen, .int .i64 r.journal, .int .i64 r.area, .int .i64 r.which, .int .i64 r.len, .int .u32 r.sum, .int .i64 r.epoch, .int .i64 r.start] 24))) := D7.out.trans (X2.out.mono D7.out.size)
  have X4 : Hid ((y8.alloc (.cells #[.int .i64 r.gen, .int .i64 r.journal, .int .i64 r.area, .int .i64 r.which, .int .i64 r.len, .int .u32 r.sum, .int .i64 r.epoch, .int .i64 r.start] 24)).heap[w5.heap.size]? = some (.cells (u8s J1).toArray 5 (0, 0))) := row_same G7.out X2.out (lt_of_heap G7.out)
  have X5 : Hid (w5.heap.size < y8.heap.size) := by have := lt_of_heap G7.out; have := hb8.size; unfold Hid; omega
  clear hb8 G7 D7 X2
  go_wp2_with fail
  generalize y8.alloc (.cells #[.int .i64 r.gen, .int .i64 r.journal, .int .i64 r.area, .int .i64 r.which, .int .i64 r.len, .int .u32 r.sum, .int .i64 r.epoch, .int .i64 r.start] 24) = Y1 at *
  generalize y8.heap.size = q1 at *
  have X4d : Hid (Y1.drew.heap[w5.heap.size]? = some (.cells (u8s J1).toArray 5 (0, 0))) := X4.out
  have X3d : Hid (Below w5.heap.size w5 Y1.drew) := X3.out.drew
  have OCd : Hid (Octs Y1.drew (.slice (some ⟨q, 0, none⟩) K 128) (Bq.take K)) := OC.out _ X3d.out
  go_region_law ((refine step_copy_octs (by rfl) (.tmp 74) (.tmp 80) 26 26 (by rfl) 5 Tryd.underlying26 Tryd.sizeU85 w5.heap.size 128 128 128 ?hd _ (Bq.take K) ?hs OCd.out J1 5 X4d.out (by rw [List.length_take]; omega) (by rw [List.length_take, I1L.out]; omega) w5.heap.size w5 X3d.out (Nat.le_refl _) ?_; (case hd => simp [Act.eval, Act.put]); (case hs => simp [Act.eval, Act.put]); intro w9 G9 D9 O9))
  rw [E2.out] at G9
  have R1 : Hid (SupAt w9 q1 r) := O9.out.undrew.sup (b := q1) X1.out (by have := X5.out; omega)
  clear O9 X1 X3 X4 X4d X3d OCd
  go_wp2_with fail
  refine (newest_v _ J2 w9 (octs_row0 G9.out I2S.out I2L.out (by decide)) (TS.out _ D9.out)).mono ?_
  rintro e y10 ⟨rfl, hb10⟩
  have HV2 : Hid (toldV (some v) = .tuple #[.agg #[.int .i64 v.gen, .int .i64 v.journal, .int .i64 v.area, .int .i64 v.which, .int .i64 v.len, .int .u32 v.sum, .int .i64 v.epoch, .int .i64 v.start], .bool true]) := rfl
  rw [N2.out, HV2.out]
  have Z1 : Hid (SupAt (y10.alloc (.cells #[.int .i64 v.gen, .int .i64 v.journal, .int .i64 v.area, .int .i64 v.which, .int .i64 v.len, .int .u32 v.sum, .int .i64 v.epoch, .int .i64 v.start] 24)) y10.heap.size v) := heap_alloc_new _ _
  have Z2 : Hid (Below w9.heap.size w9 (y10.alloc (.cells #[.int .i64 v.gen, .int .i64 v.journal, .int .i64 v.area, .int .i64 v.which, .int .i64 v.len, .int .u32 v.sum, .int .i64 v.epoch, .int .i64 v.start] 24))) := hb10.alloc hb10.size _
  have Z3 : Hid (Below w5.heap.size w5 (y10.alloc (.cells #[.int .i64 v.gen, .int .i64 v.journal, .int .i64 v.area, .int .i64 v.which, .int .i64 v.len, .int .u32 v.sum, .int .i64 v.epoch, .int .i64 v.start] 24))) := D9.out.trans (Z2.out.mono D9.out.size)
  have Z4 : Hid ((y10.alloc (.cells #[.int .i64 v.gen, .int .i64 v.journal, .int .i64 v.area, .int .i64 v.which, .int .i64 v.len, .int .u32 v.sum, .int .i64 v.epoch, .int .i64 v.start] 24)).heap[w5.heap.size]? = some (.cells (u8s J2).toArray 5 (0, 0))) := row_same G9.out Z2.out (lt_of_heap G9.out)
  have Z5 : Hid (w5.heap.size < y10.heap.size) := by have := lt_of_heap G9.out; have := hb10.size; unfold Hid; omega
  have Z6 : Hid (SupAt (y10.alloc (.cells #[.int .i64 v.gen, .int .i64 v.journal, .int .i64 v.area, .int .i64 v.which, .int .i64 v.len, .int .u32 v.sum, .int .i64 v.epoch, .int .i64 v.start] 24)) q1 r) := R1.out.same Z2.out R1.out.lt
  have cv : (convert 26 9 (.slice (some ⟨w5.heap.size, 0, none⟩) 256 256)).run Tryd.prog (y10.alloc (.cells #[.int .i64 v.gen, .int .i64 v.journal, .int .i64 v.area, .int .i64 v.which, .int .i64 v.len, .int .u32 v.sum, .int .i64 v.epoch, .int .i64 v.start] 24)) = .ok (.string (strN J2)) (y10.alloc (.cells #[.int .i64 v.gen, .int .i64 v.journal, .int .i64 v.area, .int .i64 v.which, .int .i64 v.len, .int .u32 v.sum, .int .i64 v.epoch, .int .i64 v.start] 24)) := conv_octs (P := Tryd.prog) (octs_row0 Z4.out I2S.out I2L.out (by decide)) _ _ _ Tryd.underlying26 Tryd.underlying5 Tryd.underlying9
  clear hb10 G9 D9 Z2 R1
  go_wp2_with fail
  generalize y10.alloc (.cells #[.int .i64 v.gen, .int .i64 v.journal, .int .i64 v.area, .int .i64 v.which, .int .i64 v.len, .int .u32 v.sum, .int .i64 v.epoch, .int .i64 v.start] 24) = Y2 at *
  generalize y10.heap.size = q2 at *
  clear cv
  refine (refNewest5 J2 I2S.out (by rw [I2L.out]; decide) Y2).mono ?_
  rintro e y11 ⟨rfl, hb11⟩
  rw [N2.out, HV2.out]
  have V1 : Hid (SupAt (y11.alloc (.cells #[.int .i64 v.gen, .int .i64 v.journal, .int .i64 v.area, .int .i64 v.which, .int .i64 v.len, .int .u32 v.sum, .int .i64 v.epoch, .int .i64 v.start] 24)) y11.heap.size v) := heap_alloc_new _ _
  have V2 : Hid (Below Y2.heap.size Y2 (y11.alloc (.cells #[.int .i64 v.gen, .int .i64 v.journal, .int .i64 v.area, .int .i64 v.which, .int .i64 v.len, .int .u32 v.sum, .int .i64 v.epoch, .int .i64 v.start] 24))) := hb11.alloc hb11.size _
  have V3 : Hid (Below w5.heap.size w5 (y11.alloc (.cells #[.int .i64 v.gen, .int .i64 v.journal, .int .i64 v.area, .int .i64 v.which, .int .i64 v.len, .int .u32 v.sum, .int .i64 v.epoch, .int .i64 v.start] 24))) := Z3.out.trans (V2.out.mono Z3.out.size)
  have V4 : Hid ((y11.alloc (.cells #[.int .i64 v.gen, .int .i64 v.journal, .int .i64 v.area, .int .i64 v.which, .int .i64 v.len, .int .u32 v.sum, .int .i64 v.epoch, .int .i64 v.start] 24)).heap[w5.heap.size]? = some (.cells (u8s J2).toArray 5 (0, 0))) := row_same Z4.out V2.out (lt_of_heap Z4.out)
  have V5 : Hid (w5.heap.size < y11.heap.size) := by have := lt_of_heap Z4.out; have := hb11.size; unfold Hid; omega
  have V6 : Hid (SupAt (y11.alloc (.cells #[.int .i64 v.gen, .int .i64 v.journal, .int .i64 v.area, .int .i64 v.which, .int .i64 v.len, .int .u32 v.sum, .int .i64 v.epoch, .int .i64 v.start] 24)) q1 r) := Z6.out.same V2.out Z6.out.lt
  have V7 : Hid (SupAt (y11.alloc (.cells #[.int .i64 v.gen, .int .i64 v.journal, .int .i64 v.area, .int .i64 v.which, .int .i64 v.len, .int .u32 v.sum, .int .i64 v.epoch, .int .i64 v.start] 24)) q2 v) := Z1.out.same V2.out Z1.out.lt
  clear hb11 V2 Z1 Z3 Z4 Z6
  go_wp2_with ((with_reducible show wpList _ _ _ (Oper.mk _ (Op.call ⟨Callee.builtin Builtin.copy, _, _⟩) _ _ _ _ :: _) _ _); go_must (refine wpList_copy_octs rfl _ _ 26 26 rfl 5 Tryd.underlying26 Tryd.sizeU85 w5.heap.size 128 128 128 rfl _ Bq rfl (OB.out _ V3.out) J2 5 V4.out (by rw [HBL.out]; decide) (by rw [HBL.out, I2L.out]; decide) w5.heap.size w5 V3.out (Nat.le_refl _) ?_))
  intro w12 G12 D12 O12
  rw [E3.out] at G12
  have A1 : Hid (SupAt w12 q1 r) := O12.out.sup (b := q1) V6.out (by have := X5.out; omega)
  have A2 : Hid (SupAt w12 q2 v) := O12.out.sup (b := q2) V7.out (by have := Z5.out; omega)
  have A3 : Hid (SupAt w12 y11.heap.size v) := O12.out.sup (b := y11.heap.size) V1.out (by have := V5.out; omega)
  clear O12 V1 V3 V4 V6 V7
  go_wp2_with fail
  generalize y11.heap.size = q3 at *
  refine (newest_v _ J3 w12 (octs_row0 G12.out I3S.out I3L.out (by decide)) (TS.out _ D12.out)).mono ?_
  rintro e y13 ⟨rfl, hb13⟩
  have HV3 : Hid (toldV (some u) = .tuple #[.agg #[.int .i64 u.gen, .int .i64 u.journal, .int .i64 u.area, .int .i64 u.which, .int .i64 u.len, .int .u32 u.sum, .int .i64 u.epoch, .int .i64 u.start], .bool true]) := rfl
  rw [N3.out, HV3.out]
  have L1 : Hid (SupAt (y13.alloc (.cells #[.int .i64 u.gen, .int .i64 u.journal, .int .i64 u.area, .int .i64 u.which, .int .i64 u.len, .int .u32 u.sum, .int .i64 u.epoch, .int .i64 u.start] 24)) y13.heap.size u) := heap_alloc_new _ _
  have L2 : Hid (Below w12.heap.size w12 (y13.alloc (.cells #[.int .i64 u.gen, .int .i64 u.journal, .int .i64 u.area, .int .i64 u.which, .int .i64 u.len, .int .u32 u.sum, .int .i64 u.epoch, .int .i64 u.start] 24))) := hb13.alloc hb13.size _
  have L3 : Hid (Below w5.heap.size w5 (y13.alloc (.cells #[.int .i64 u.gen, .int .i64 u.journal, .int .i64 u.area, .int .i64 u.which, .int .i64 u.len, .int .u32 u.sum, .int .i64 u.epoch, .int .i64 u.start] 24))) := D12.out.trans (L2.out.mono D12.out.size)
  have F1 : Hid (SupAt (y13.alloc (.cells #[.int .i64 u.gen, .int .i64 u.journal, .int .i64 u.area, .int .i64 u.which, .int .i64 u.len, .int .u32 u.sum, .int .i64 u.epoch, .int .i64 u.start] 24)) q1 r) := A1.out.same L2.out A1.out.lt
  have F2 : Hid (SupAt (y13.alloc (.cells #[.int .i64 u.gen, .int .i64 u.journal, .int .i64 u.area, .int .i64 u.which, .int .i64 u.len, .int .u32 u.sum, .int .i64 u.epoch, .int .i64 u.start] 24)) q2 v) := A2.out.same L2.out A2.out.lt
  have F3 : Hid (SupAt (y13.alloc (.cells #[.int .i64 u.gen, .int .i64 u.journal, .int .i64 u.area, .int .i64 u.which, .int .i64 u.len, .int .u32 u.sum, .int .i64 u.epoch, .int .i64 u.start] 24)) q3 v) := A3.out.same L2.out A3.out.lt
  clear hb13 G12 D12 L2 A1 A2 A3
  go_wp2_with fail
  generalize y13.alloc (.cells #[.int .i64 u.gen, .int .i64 u.journal, .int .i64 u.area, .int .i64 u.which, .int .i64 u.len, .int .u32 u.sum, .int .i64 u.epoch, .int .i64 u.start] 24) = Y4 at *
  generalize y13.heap.size = q4 at *
  have HE : Hid (∀ w', Below Y4.heap.size Y4 w' → w'.cell? ⟨w.heap.size, 0, none⟩ = some (.int .i64 u.gen) ∧ w'.cell? ⟨w.heap.size, 1, none⟩ = some (.int .i64 u.journal) ∧ w'.cell? ⟨w.heap.size, 2, none⟩ = some (.int .i64 u.area) ∧ w'.cell? ⟨w.heap.size, 3, none⟩ = some (.int .i64 u.which) ∧ w'.cell? ⟨w.heap.size, 4, none⟩ = some (.int .i64 u.len) ∧ w'.cell? ⟨w.heap.size, 5, none⟩ = some (.int .u32 u.sum) ∧ w'.cell? ⟨w.heap.size, 6, none⟩ = some (.int .i64 u.epoch) ∧ w'.cell? ⟨w.heap.size, 7, none⟩ = some (.int .i64 u.start) ∧ w'.cell? ⟨q1, 0, none⟩ = some (.int .i64 r.gen) ∧ w'.cell? ⟨q1, 1, none⟩ = some (.int .i64 r.journal) ∧ w'.cell? ⟨q1, 2, none⟩ = some (.int .i64 r.area) ∧ w'.cell? ⟨q1, 3, none⟩ = some (.int .i64 r.which) ∧ w'.cell? ⟨q1, 4, none⟩ = some (.int .i64 r.len) ∧ w'.cell? ⟨q1, 5, none⟩ = some (.int .u32 r.sum) ∧ w'.cell? ⟨q1, 6, none⟩ = some (.int .i64 r.epoch) ∧ w'.cell? ⟨q1, 7, none⟩ = some (.int .i64 r.start) ∧ w'.cell? ⟨q4, 0, none⟩ = some (.int .i64 u.gen) ∧ w'.cell? ⟨q4, 1, none⟩ = some (.int .i64 u.journal) ∧ w'.cell? ⟨q4, 2, none⟩ = some (.int .i64 u.area) ∧ w'.cell? ⟨q4, 3, none⟩ = some (.int .i64 u.which) ∧ w'.cell? ⟨q4, 4, none⟩ = some (.int .i64 u.len) ∧ w'.cell? ⟨q4, 5, none⟩ = some (.int .u32 u.sum) ∧ w'.cell? ⟨q4, 6, none⟩ = some (.int .i64 u.epoch) ∧ w'.cell? ⟨q4, 7, none⟩ = some (.int .i64 u.start)) := fun w' h => by
    obtain ⟨a0, a1, a2, a3, a4, a5, a6, a7⟩ := (US.out w' (L3.out.trans (h.mono L3.out.size))).cells
    obtain ⟨b0, b1, b2, b3, b4, b5, b6, b7⟩ := (F1.out.same h F1.out.lt).cells
    obtain ⟨c0, c1, c2, c3, c4, c5, c6, c7⟩ := (L1.out.same h L1.out.lt).cells
    exact ⟨a0, a1, a2, a3, a4, a5, a6, a7, b0, b1, b2, b3, b4, b5, b6, b7, c0, c1, c2, c3, c4, c5, c6, c7⟩
  go_region_held3 (fun w' => w'.cell? ⟨w.heap.size, 0, none⟩ = some (.int .i64 u.gen) ∧ w'.cell? ⟨w.heap.size, 1, none⟩ = some (.int .i64 u.journal) ∧ w'.cell? ⟨w.heap.size, 2, none⟩ = some (.int .i64 u.area) ∧ w'.cell? ⟨w.heap.size, 3, none⟩ = some (.int .i64 u.which) ∧ w'.cell? ⟨w.heap.size, 4, none⟩ = some (.int .i64 u.len) ∧ w'.cell? ⟨w.heap.size, 5, none⟩ = some (.int .u32 u.sum) ∧ w'.cell? ⟨w.heap.size, 6, none⟩ = some (.int .i64 u.epoch) ∧ w'.cell? ⟨w.heap.size, 7, none⟩ = some (.int .i64 u.start) ∧ w'.cell? ⟨q1, 0, none⟩ = some (.int .i64 r.gen) ∧ w'.cell? ⟨q1, 1, none⟩ = some (.int .i64 r.journal) ∧ w'.cell? ⟨q1, 2, none⟩ = some (.int .i64 r.area) ∧ w'.cell? ⟨q1, 3, none⟩ = some (.int .i64 r.which) ∧ w'.cell? ⟨q1, 4, none⟩ = some (.int .i64 r.len) ∧ w'.cell? ⟨q1, 5, none⟩ = some (.int .u32 r.sum) ∧ w'.cell? ⟨q1, 6, none⟩ = some (.int .i64 r.epoch) ∧ w'.cell? ⟨q1, 7, none⟩ = some (.int .i64 r.start) ∧ w'.cell? ⟨q4, 0, none⟩ = some (.int .i64 u.gen) ∧ w'.cell? ⟨q4, 1, none⟩ = some (.int .i64 u.journal) ∧ w'.cell? ⟨q4, 2, none⟩ = some (.int .i64 u.area) ∧ w'.cell? ⟨q4, 3, none⟩ = some (.int .i64 u.which) ∧ w'.cell? ⟨q4, 4, none⟩ = some (.int .i64 u.len) ∧ w'.cell? ⟨q4, 5, none⟩ = some (.int .u32 u.sum) ∧ w'.cell? ⟨q4, 6, none⟩ = some (.int .i64 u.epoch) ∧ w'.cell? ⟨q4, 7, none⟩ = some (.int .i64 u.start)) (first | exact HE.out _ (Below.refl _ _).drew | exact HE.out _ HBa.out) (first
    | (go_at_call 19; refine (HPl.out Y4.drew).mono ?_; rintro e wa ⟨rfl, hba⟩; have HBa : Hid (Below Y4.heap.size Y4 wa) := below_undrew hba; clear hba))
  all_goals
    obtain ⟨k0, k1, k2, k3, k4, k5, k6, k7, b0, b1, b2, b3, b4, b5, b6, b7, c0, c1, c2, c3, c4, c5, c6, c7⟩ := HE.out _ HBa.out
    obtain ⟨d0, d1, d2, d3, d4, d5, d6, d7⟩ := (F2.out.same HBa.out F2.out.lt).cells
    obtain ⟨e0, e1, e2, e3, e4, e5, e6, e7⟩ := (F3.out.same HBa.out F3.out.lt).cells
    have HBw : Hid (Below w.heap.size w wa) := B5.out.trans ((L3.out.trans (HBa.out.mono L3.out.size)).mono B5.out.size)
    have n1 : ¬ u.gen = r.gen := by have := HUG.out; have := HRG.out; omega
    have n2 : (u.gen == r.gen) = false := by simpa using n1
    rcases HVV.out with rfl | rfl
    · go_wp2
      go_ret
      exact ⟨rfl, HBw.out⟩
    · go_wp2
      go_ret
      exact ⟨rfl, HBw.out⟩

set_option maxHeartbeats 1000000 in
set_option maxRecDepth 20000 in
theorem turns_main1 (g : Int) (s : Sup) (cut : Int) (w : World) (ht : Steps w) (hs : s.Fits) (h1 : 1 ≤ g) (h2 : g ≤ 140737488355328) (hpar : g % 2 = 1) (u : Sup) (hu : u = { s with gen := g + 1 }) (fu : u.Fits) (hok : okS u = true) : Calls Tryd.prog 5 #[.int .i64 g, sval s, .int .i64 cut] w fun e w' => e = .returned (.bool true) ∧ Below w.heap.size w w' := by
  have HT : Hid (Steps w) := ht
  have HU : Hid u.Fits := fu
  have hug : u.gen = g + 1 := by rw [hu]
  have HUE : Hid (u = { s with gen := g + 1 }) := hu
  have HUG : Hid (u.gen = g + 1) := hug
  obtain ⟨K, hK, hKe⟩ := rem_at cut 128 (by decide) (by decide)
  have hK2 : K ≤ 128 := by omega
  have hK3 : (K : Int) ≤ 128 := by omega
  have hrf := plainS_fits g h1 (by omega)
  have hrk := plainS_ok g h1 (by omega)
  have hrg : (plainS g).gen = g := rfl
  have HPL := fun w' => plain5 g w'
  obtain ⟨M1, ⟨v, M2, hv⟩, M3⟩ := turns_odd (plainS g) u hrf fu hrk hok (by rw [hrg]; exact hpar) (by rw [hrg]; exact hug) K hK2
  have HPl : Hid (∀ w, Calls Tryd.prog 19 #[.int .i64 g] w fun e w' => e = .returned (sval (plainS g)) ∧ Below w.heap.size w w') := HPL
  have HPr : Hid (∀ w', Steps w' → Calls Tryd.prog 9 #[sval (plainS g)] w' fun e w'' => ∃ p, e = .returned (.tuple #[.slice (some ⟨p, 0, none⟩) 128 128, .int .i64 0]) ∧ w''.heap[p]? = some (.cells (u8s (sect (plainS g))).toArray 43 (0, 0)) ∧ w'.heap.size ≤ p ∧ Below w'.heap.size w' w'') := fun w' h => put_ok (plainS g) hrf hrk w' h
  have HAL : Hid ((sect (plainS g)).length = 128) := sect_length _
  have HAS : Hid (∀ z ∈ sect (plainS g), z < 256) := sect_small _
  have HBL : Hid ((sect u).length = 128) := sect_length _
  have HBS : Hid (∀ z ∈ sect u, z < 256) := sect_small _
  have HPu : Hid (∀ w', Steps w' → Calls Tryd.prog 9 #[sval u] w' fun e w'' => ∃ p, e = .returned (.tuple #[.slice (some ⟨p, 0, none⟩) 128 128, .int .i64 0]) ∧ w''.heap[p]? = some (.cells (u8s (sect u)).toArray 43 (0, 0)) ∧ w'.heap.size ≤ p ∧ Below w'.heap.size w' w'') := fun w' h => put_ok u fu hok w' h
  have HRG : Hid ((plainS g).gen = g) := hrg
  clear hrg hug hu
  generalize plainS g = r at *
  have N1 : Hid (newestS (zl 128 ++ sect r) = some r) := M1
  have N2 : Hid (newestS (torn (sect u) (zl 128) K ++ sect r) = some v) := M2
  have N3 : Hid (newestS (sect u ++ sect r) = some u) := M3
  have HVV : Hid (v = r ∨ v = u) := hv
  generalize sect r = A at *
  generalize sect u = Bq at *
  have E1 : Hid (splice (zl 256) 128 A = zl 128 ++ A) := splice_b1 A HAL.out
  have E2 : Hid (splice (zl 128 ++ A) 0 (Bq.take K) = torn Bq (zl 128) K ++ A) := splice_b2 A Bq HAL.out HBL.out K hK2
  have E3 : Hid (splice (torn Bq (zl 128) K ++ A) 0 Bq = Bq ++ A) := splice_b3 A _ Bq (by rw [torn_length _ _ _ (by rw [HBL.out, zl_length]) (by rw [HBL.out]; exact hK2), HBL.out]) HBL.out
  have I1L : Hid ((zl 128 ++ A).length = 256) := by unfold Hid; rw [List.length_append, zl_length, HAL.out]
  have I2L : Hid ((torn Bq (zl 128) K ++ A).length = 256) := by unfold Hid; rw [List.length_append, torn_length _ _ _ (by rw [HBL.out, zl_length]) (by rw [HBL.out]; exact hK2), HBL.out, HAL.out]
  have I3L : Hid ((Bq ++ A).length = 256) := by unfold Hid; rw [List.length_append, HBL.out, HAL.out]
  have I1S : Hid (∀ z ∈ zl 128 ++ A, z < 256) := small_app (zl_small _) HAS.out
  have hts : ∀ z ∈ torn Bq (zl 128) K, z < 256 := small_app (fun z h => HBS.out z (List.mem_of_mem_take h)) (fun z h => zl_small _ z (List.mem_of_mem_drop h))
  have I2S : Hid (∀ z ∈ torn Bq (zl 128) K ++ A, z < 256) := small_app hts HAS.out
  have I3S : Hid (∀ z ∈ Bq ++ A, z < 256) := small_app HBS.out HAS.out
  clear M1 M2 M3 hv hrf hrk HPL hts
  generalize zl 128 ++ A = J1 at *
  generalize torn Bq (zl 128) K ++ A = J2 at *
  generalize Bq ++ A = J3 at *
  clear ht hs fu
  have h1' : ¬ g < 1 := by omega
  have h2' : ¬ 140737488355328 < g := by omega
  have hwr : IntKind.i64.wrap (g + 1) = g + 1 := by rw [IntKind.wrap_i64]; omega
  have hand : bits .and .i64 g 1 = 1 := by rw [and_one_i64 g (by omega) (by omega)]; exact hpar
  have hmk : ∀ W : World, (Instr.makeSlice 26 (.int .i64 256) (.int .i64 256)).run Tryd.prog W = .ok (.slice (some ⟨W.heap.size, 0, none⟩) 256 256) (W.alloc (.cells (u8s (zl 256)).toArray 5)) := Tryd.make5 256 (by decide)
  have HZL : Hid ((zl 256).length = 256) := zl_length _
  have hKe2 : (IntKind.i64.wrap (cut.tmod 128 + 128)).tmod 128 = (K : Int) := by
    have h3 := Int.tmod_lt_of_pos cut (show (0 : Int) < 128 by decide)
    have h4 := Int.lt_tmod_of_pos cut (show (0 : Int) < 128 by decide)
    rw [show IntKind.i64.wrap (cut.tmod 128 + 128) = wrap64 (cut.tmod 128 + 128) by rw [IntKind.wrap_i64]; unfold wrap64; omega]
    exact hKe
  have hK0 : (0 : Int) ≤ (K : Int) := by omega
  have hwo : IntKind.i64.wrap 0 = 0 := by rw [IntKind.wrap_i64]; omega
  generalize zl 256 = Z at *
  go_enter Tryd.func5, Tryd.ntmps5
  go_wp2_with fail
  refine (awake5 _ (HT.out.alloc _)).mono ?_
  rintro e w1 ⟨rfl, hb1⟩
  have S1 : Hid (SupAt w1 w.heap.size s) := SupAt.same (heap_alloc_new w _) hb1 (by simp)
  have B1 : Hid (Below w.heap.size w w1) := ((Below.refl _ _).alloc (Nat.le_refl _) _).trans (hb1.mono (by simp))
  clear hb1
  have fz : w1.frozen? ⟨w.heap.size, 0, none⟩ = false := S1.out.frozen 0
  obtain ⟨k0, k1, k2, k3, k4, k5, k6, k7⟩ := S1.out.cells
  have U1 : Hid (SupAt (w1.setCell ⟨w.heap.size, 0, none⟩ (.int .i64 (g + 1))) w.heap.size { s with gen := g + 1 }) := (heap_set_row S1.out 0 _).trans rfl
  have C1 : Hid (Below w.heap.size w (w1.setCell ⟨w.heap.size, 0, none⟩ (.int .i64 (g + 1)))) := B1.out.setCell (p := ⟨w.heap.size, 0, none⟩) (Nat.le_refl _) _
  rw [← HUE.out] at U1
  go_wp2_with fail
  generalize w1.setCell ⟨w.heap.size, 0, none⟩ (.int .i64 (g + 1)) = W1 at *
  clear k0 k1 k2 k3 k4 k5 k6 k7 fz S1 B1
  have HR : Calls Tryd.prog 11 #[.agg #[.int .i64 (g + 1), .int .i64 s.journal, .int .i64 s.area, .int .i64 s.which, .int .i64 s.len, .int .u32 s.sum, .int .i64 s.epoch, .int .i64 s.start]] W1 (fun e w' => e = .returned (.bool (okS u)) ∧ Below W1.heap.size W1 w') := by
    have hu := HUE.out
    clear U1 C1 HUE
    subst hu
    exact refRight5 _ HU.out W1
  refine HR.mono ?_
  clear HR
  rintro e w2 ⟨rfl, hb2⟩
  rw [hok]
  have U2 : Hid (SupAt w2 w.heap.size u) := U1.out.same hb2 U1.out.lt
  have B2 : Hid (Below w.heap.size w w2) := C1.out.trans (hb2.mono C1.out.size)
  clear hb2 U1 C1
  obtain ⟨k0, k1, k2, k3, k4, k5, k6, k7⟩ := U2.out.cells
  go_wp2_with fail
  refine (HPl.out w2).mono ?_
  rintro e w3 ⟨rfl, hb3⟩
  have U3 : Hid (SupAt w3 w.heap.size u) := U2.out.same hb3 U2.out.lt
  have B3 : Hid (Below w.heap.size w w3) := B2.out.trans (hb3.mono B2.out.size)
  clear hb3 k0 k1 k2 k3 k4 k5 k6 k7
  go_wp2_with fail
  refine (HPr.out w3 (HT.out.below B3.out)).mono ?_
  rintro e w4 ⟨p, rfl, g4, _, hb4⟩
  have U4 : Hid (SupAt w4 w.heap.size u) := U3.out.same hb4 U3.out.lt
  have B4 : Hid (Below w.heap.size w w4) := B3.out.trans (hb4.mono B3.out.size)
  have G4 : Hid (w4.heap[p]? = some (.cells (u8s A).toArray 43 (0, 0))) := g4
  clear g4 hb4
  obtain ⟨k0, k1, k2, k3, k4, k5, k6, k7⟩ := U4.out.cells
  go_wp2_with fail
  refine (HPu.out w4 (HT.out.below B4.out)).mono ?_
  rintro e w5 ⟨q, rfl, g5, _, hb5⟩
  have U5 : Hid (SupAt w5 w.heap.size u) := U4.out.same hb5 U4.out.lt
  have B5 : Hid (Below w.heap.size w w5) := B4.out.trans (hb5.mono B4.out.size)
  have GA : Hid (w5.heap[p]? = some (.cells (u8s A).toArray 43 (0, 0))) := row_same G4.out hb5 (lt_of_heap G4.out)
  have GB : Hid (w5.heap[q]? = some (.cells (u8s Bq).toArray 43 (0, 0))) := g5
  clear g5 hb5 k0 k1 k2 k3 k4 k5 k6 k7 G4
  have OA : Hid (∀ w', Below w5.heap.size w5 w' → Octs w' (.slice (some ⟨p, 0, none⟩) 128 128) A) := fun w' h => octs_row0 (row_same GA.out h (lt_of_heap GA.out)) HAS.out HAL.out (by decide)
  have OB : Hid (∀ w', Below w5.heap.size w5 w' → Octs w' (.slice (some ⟨q, 0, none⟩) 128 128) Bq) := fun w' h => octs_row0 (row_same GB.out h (lt_of_heap GB.out)) HBS.out HBL.out (by decide)
  have OC : Hid (∀ w', Below w5.heap.size w5 w' → Octs w' (.slice (some ⟨q, 0, none⟩) K 128) (Bq.take K)) := fun w' h => octs_first (row_same GB.out h (lt_of_heap GB.out)) HBS.out HBL.out K hK2
  have US : Hid (∀ w', Below w5.heap.size w5 w' → SupAt w' w.heap.size u) := fun w' h => U5.out.same h U5.out.lt
  have TS : Hid (∀ w', Below w5.heap.size w5 w' → Steps w') := fun w' h => (HT.out.below B5.out).below h
  have D6 : Hid (Below w5.heap.size w5 (w5.alloc (.cells (u8s Z).toArray 5))) := (Below.refl _ _).alloc (Nat.le_refl _) _
  have G6 : Hid ((w5.alloc (.cells (u8s Z).toArray 5)).heap[w5.heap.size]? = some (.cells (u8s Z).toArray 5 (0, 0))) := heap_alloc_new _ _
  clear GA GB U3 U4 U5 B3 B4 U2
  go_wp2_with ((with_reducible show wpList _ _ _ (Oper.mk _ (Op.call ⟨Callee.builtin Builtin.copy, _, _⟩) _ _ _ _ :: _) _ _); go_must (refine wpList_copy_octs rfl _ _ 26 26 rfl 5 Tryd.underlying26 Tryd.sizeU85 w5.heap.size 128 128 128 rfl _ A rfl (OA.out _ D6.out) Z 5 G6.out (by rw [HAL.out]; decide) (by rw [HAL.out, HZL.out]; decide) w5.heap.size w5 D6.out (Nat.le_refl _) ?_))
  intro w7 G7 D7 _
  rw [E1.out] at G7
  clear D6 G6
  go_wp2_with fail
  refine (newest_v _ J1 w7 (octs_row0 G7.out I1S.out I1L.out (by decide)) (TS.out _ D7.out)).mono ?_
  rintro e y8 ⟨rfl, hb8⟩
  have HV1 : Hid (toldV (some r) = .tuple #[.agg #[.int .i64 r.gen, .int .i64 r.journal, .int .i64 r.area, .int .i64 r.which, .int .i64 r.len, .int .u32 r.sum, .int .i64 r.epoch, .int .i64 r.start], .bool true]) := rfl
  rw [N1.out, HV1.out]
  have X1 : Hid (SupAt (y8.alloc (.cells #[.int .i64 r.gen, .int .i64 r.journal, .int .i64 r.area, .int .i64 r.which, .int .i64 r.len, .int .u32 r.sum, .int .i64 r.epoch, .int .i64 r.start] 24)) y8.heap.size r) := heap_alloc_new _ _
  have X2 : Hid (Below w7.heap.size w7 (y8.alloc (.cells #[.int .i64 r.gen, .int .i64 r.journal, .int .i64 r.area, .int .i64 r.which, .int .i64 r.len, .int .u32 r.sum, .int .i64 r.epoch, .int .i64 r.start] 24))) := hb8.alloc hb8.size _
  have X3 : Hid (Below w5.heap.size w5 (y8.alloc (.cells #[.int .i64 r.gen, .int .i64 r.journal, .int .i64 r.area, .int .i64 r.which, .int .i64 r.len, .int .u32 r.sum, .int .i64 r.epoch, .int .i64 r.start] 24))) := D7.out.trans (X2.out.mono D7.out.size)
  have X4 : Hid ((y8.alloc (.cells #[.int .i64 r.gen, .int .i64 r.journal, .int .i64 r.area, .int .i64 r.which, .int .i64 r.len, .int .u32 r.sum, .int .i64 r.epoch, .int .i64 r.start] 24)).heap[w5.heap.size]? = some (.cells (u8s J1).toArray 5 (0, 0))) := row_same G7.out X2.out (lt_of_heap G7.out)
  have X5 : Hid (w5.heap.size < y8.heap.size) := by have := lt_of_heap G7.out; have := hb8.size; unfold Hid; omega
  clear hb8 G7 D7 X2
  go_wp2_with fail
  generalize y8.alloc (.cells #[.int .i64 r.gen, .int .i64 r.journal, .int .i64 r.area, .int .i64 r.which, .int .i64 r.len, .int .u32 r.sum, .int .i64 r.epoch, .int .i64 r.start] 24) = Y1 at *
  generalize y8.heap.size = q1 at *
  have X4d : Hid (Y1.drew.heap[w5.heap.size]? = some (.cells (u8s J1).toArray 5 (0, 0))) := X4.out
  have X3d : Hid (Below w5.heap.size w5 Y1.drew) := X3.out.drew
  have OCd : Hid (Octs Y1.drew (.slice (some ⟨q, 0, none⟩) K 128) (Bq.take K)) := OC.out _ X3d.out
  go_region_law ((refine step_copy_octs (by rfl) (.tmp 74) (.tmp 80) 26 26 (by rfl) 5 Tryd.underlying26 Tryd.sizeU85 w5.heap.size 0 256 256 ?hd _ (Bq.take K) ?hs OCd.out J1 5 X4d.out (by rw [List.length_take]; omega) (by rw [List.length_take, I1L.out]; omega) w5.heap.size w5 X3d.out (Nat.le_refl _) ?_; (case hd => simp [Act.eval, Act.put]); (case hs => simp [Act.eval, Act.put]); intro w9 G9 D9 O9))
  rw [E2.out] at G9
  have R1 : Hid (SupAt w9 q1 r) := O9.out.undrew.sup (b := q1) X1.out (by have := X5.out; omega)
  clear O9 X1 X3 X4 X4d X3d OCd
  go_wp2_with fail
  refine (newest_v _ J2 w9 (octs_row0 G9.out I2S.out I2L.out (by decide)) (TS.out _ D9.out)).mono ?_
  rintro e y10 ⟨rfl, hb10⟩
  have HV2 : Hid (toldV (some v) = .tuple #[.agg #[.int .i64 v.gen, .int .i64 v.journal, .int .i64 v.area, .int .i64 v.which, .int .i64 v.len, .int .u32 v.sum, .int .i64 v.epoch, .int .i64 v.start], .bool true]) := rfl
  rw [N2.out, HV2.out]
  have Z1 : Hid (SupAt (y10.alloc (.cells #[.int .i64 v.gen, .int .i64 v.journal, .int .i64 v.area, .int .i64 v.which, .int .i64 v.len, .int .u32 v.sum, .int .i64 v.epoch, .int .i64 v.start] 24)) y10.heap.size v) := heap_alloc_new _ _
  have Z2 : Hid (Below w9.heap.size w9 (y10.alloc (.cells #[.int .i64 v.gen, .int .i64 v.journal, .int .i64 v.area, .int .i64 v.which, .int .i64 v.len, .int .u32 v.sum, .int .i64 v.epoch, .int .i64 v.start] 24))) := hb10.alloc hb10.size _
  have Z3 : Hid (Below w5.heap.size w5 (y10.alloc (.cells #[.int .i64 v.gen, .int .i64 v.journal, .int .i64 v.area, .int .i64 v.which, .int .i64 v.len, .int .u32 v.sum, .int .i64 v.epoch, .int .i64 v.start] 24))) := D9.out.trans (Z2.out.mono D9.out.size)
  have Z4 : Hid ((y10.alloc (.cells #[.int .i64 v.gen, .int .i64 v.journal, .int .i64 v.area, .int .i64 v.which, .int .i64 v.len, .int .u32 v.sum, .int .i64 v.epoch, .int .i64 v.start] 24)).heap[w5.heap.size]? = some (.cells (u8s J2).toArray 5 (0, 0))) := row_same G9.out Z2.out (lt_of_heap G9.out)
  have Z5 : Hid (w5.heap.size < y10.heap.size) := by have := lt_of_heap G9.out; have := hb10.size; unfold Hid; omega
  have Z6 : Hid (SupAt (y10.alloc (.cells #[.int .i64 v.gen, .int .i64 v.journal, .int .i64 v.area, .int .i64 v.which, .int .i64 v.len, .int .u32 v.sum, .int .i64 v.epoch, .int .i64 v.start] 24)) q1 r) := R1.out.same Z2.out R1.out.lt
  have cv : (convert 26 9 (.slice (some ⟨w5.heap.size, 0, none⟩) 256 256)).run Tryd.prog (y10.alloc (.cells #[.int .i64 v.gen, .int .i64 v.journal, .int .i64 v.area, .int .i64 v.which, .int .i64 v.len, .int .u32 v.sum, .int .i64 v.epoch, .int .i64 v.start] 24)) = .ok (.string (strN J2)) (y10.alloc (.cells #[.int .i64 v.gen, .int .i64 v.journal, .int .i64 v.area, .int .i64 v.which, .int .i64 v.len, .int .u32 v.sum, .int .i64 v.epoch, .int .i64 v.start] 24)) := conv_octs (P := Tryd.prog) (octs_row0 Z4.out I2S.out I2L.out (by decide)) _ _ _ Tryd.underlying26 Tryd.underlying5 Tryd.underlying9
  clear hb10 G9 D9 Z2 R1
  go_wp2_with fail
  generalize y10.alloc (.cells #[.int .i64 v.gen, .int .i64 v.journal, .int .i64 v.area, .int .i64 v.which, .int .i64 v.len, .int .u32 v.sum, .int .i64 v.epoch, .int .i64 v.start] 24) = Y2 at *
  generalize y10.heap.size = q2 at *
  clear cv
  refine (refNewest5 J2 I2S.out (by rw [I2L.out]; decide) Y2).mono ?_
  rintro e y11 ⟨rfl, hb11⟩
  rw [N2.out, HV2.out]
  have V1 : Hid (SupAt (y11.alloc (.cells #[.int .i64 v.gen, .int .i64 v.journal, .int .i64 v.area, .int .i64 v.which, .int .i64 v.len, .int .u32 v.sum, .int .i64 v.epoch, .int .i64 v.start] 24)) y11.heap.size v) := heap_alloc_new _ _
  have V2 : Hid (Below Y2.heap.size Y2 (y11.alloc (.cells #[.int .i64 v.gen, .int .i64 v.journal, .int .i64 v.area, .int .i64 v.which, .int .i64 v.len, .int .u32 v.sum, .int .i64 v.epoch, .int .i64 v.start] 24))) := hb11.alloc hb11.size _
  have V3 : Hid (Below w5.heap.size w5 (y11.alloc (.cells #[.int .i64 v.gen, .int .i64 v.journal, .int .i64 v.area, .int .i64 v.which, .int .i64 v.len, .int .u32 v.sum, .int .i64 v.epoch, .int .i64 v.start] 24))) := Z3.out.trans (V2.out.mono Z3.out.size)
  have V4 : Hid ((y11.alloc (.cells #[.int .i64 v.gen, .int .i64 v.journal, .int .i64 v.area, .int .i64 v.which, .int .i64 v.len, .int .u32 v.sum, .int .i64 v.epoch, .int .i64 v.start] 24)).heap[w5.heap.size]? = some (.cells (u8s J2).toArray 5 (0, 0))) := row_same Z4.out V2.out (lt_of_heap Z4.out)
  have V5 : Hid (w5.heap.size < y11.heap.size) := by have := lt_of_heap Z4.out; have := hb11.size; unfold Hid; omega
  have V6 : Hid (SupAt (y11.alloc (.cells #[.int .i64 v.gen, .int .i64 v.journal, .int .i64 v.area, .int .i64 v.which, .int .i64 v.len, .int .u32 v.sum, .int .i64 v.epoch, .int .i64 v.start] 24)) q1 r) := Z6.out.same V2.out Z6.out.lt
  have V7 : Hid (SupAt (y11.alloc (.cells #[.int .i64 v.gen, .int .i64 v.journal, .int .i64 v.area, .int .i64 v.which, .int .i64 v.len, .int .u32 v.sum, .int .i64 v.epoch, .int .i64 v.start] 24)) q2 v) := Z1.out.same V2.out Z1.out.lt
  clear hb11 V2 Z1 Z3 Z4 Z6
  go_wp2_with ((with_reducible show wpList _ _ _ (Oper.mk _ (Op.call ⟨Callee.builtin Builtin.copy, _, _⟩) _ _ _ _ :: _) _ _); go_must (refine wpList_copy_octs rfl _ _ 26 26 rfl 5 Tryd.underlying26 Tryd.sizeU85 w5.heap.size 0 256 256 rfl _ Bq rfl (OB.out _ V3.out) J2 5 V4.out (by rw [HBL.out]; decide) (by rw [HBL.out, I2L.out]; decide) w5.heap.size w5 V3.out (Nat.le_refl _) ?_))
  intro w12 G12 D12 O12
  rw [E3.out] at G12
  have A1 : Hid (SupAt w12 q1 r) := O12.out.sup (b := q1) V6.out (by have := X5.out; omega)
  have A2 : Hid (SupAt w12 q2 v) := O12.out.sup (b := q2) V7.out (by have := Z5.out; omega)
  have A3 : Hid (SupAt w12 y11.heap.size v) := O12.out.sup (b := y11.heap.size) V1.out (by have := V5.out; omega)
  clear O12 V1 V3 V4 V6 V7
  go_wp2_with fail
  generalize y11.heap.size = q3 at *
  refine (newest_v _ J3 w12 (octs_row0 G12.out I3S.out I3L.out (by decide)) (TS.out _ D12.out)).mono ?_
  rintro e y13 ⟨rfl, hb13⟩
  have HV3 : Hid (toldV (some u) = .tuple #[.agg #[.int .i64 u.gen, .int .i64 u.journal, .int .i64 u.area, .int .i64 u.which, .int .i64 u.len, .int .u32 u.sum, .int .i64 u.epoch, .int .i64 u.start], .bool true]) := rfl
  rw [N3.out, HV3.out]
  have L1 : Hid (SupAt (y13.alloc (.cells #[.int .i64 u.gen, .int .i64 u.journal, .int .i64 u.area, .int .i64 u.which, .int .i64 u.len, .int .u32 u.sum, .int .i64 u.epoch, .int .i64 u.start] 24)) y13.heap.size u) := heap_alloc_new _ _
  have L2 : Hid (Below w12.heap.size w12 (y13.alloc (.cells #[.int .i64 u.gen, .int .i64 u.journal, .int .i64 u.area, .int .i64 u.which, .int .i64 u.len, .int .u32 u.sum, .int .i64 u.epoch, .int .i64 u.start] 24))) := hb13.alloc hb13.size _
  have L3 : Hid (Below w5.heap.size w5 (y13.alloc (.cells #[.int .i64 u.gen, .int .i64 u.journal, .int .i64 u.area, .int .i64 u.which, .int .i64 u.len, .int .u32 u.sum, .int .i64 u.epoch, .int .i64 u.start] 24))) := D12.out.trans (L2.out.mono D12.out.size)
  have F1 : Hid (SupAt (y13.alloc (.cells #[.int .i64 u.gen, .int .i64 u.journal, .int .i64 u.area, .int .i64 u.which, .int .i64 u.len, .int .u32 u.sum, .int .i64 u.epoch, .int .i64 u.start] 24)) q1 r) := A1.out.same L2.out A1.out.lt
  have F2 : Hid (SupAt (y13.alloc (.cells #[.int .i64 u.gen, .int .i64 u.journal, .int .i64 u.area, .int .i64 u.which, .int .i64 u.len, .int .u32 u.sum, .int .i64 u.epoch, .int .i64 u.start] 24)) q2 v) := A2.out.same L2.out A2.out.lt
  have F3 : Hid (SupAt (y13.alloc (.cells #[.int .i64 u.gen, .int .i64 u.journal, .int .i64 u.area, .int .i64 u.which, .int .i64 u.len, .int .u32 u.sum, .int .i64 u.epoch, .int .i64 u.start] 24)) q3 v) := A3.out.same L2.out A3.out.lt
  clear hb13 G12 D12 L2 A1 A2 A3
  go_wp2_with fail
  generalize y13.alloc (.cells #[.int .i64 u.gen, .int .i64 u.journal, .int .i64 u.area, .int .i64 u.which, .int .i64 u.len, .int .u32 u.sum, .int .i64 u.epoch, .int .i64 u.start] 24) = Y4 at *
  generalize y13.heap.size = q4 at *
  have HE : Hid (∀ w', Below Y4.heap.size Y4 w' → w'.cell? ⟨w.heap.size, 0, none⟩ = some (.int .i64 u.gen) ∧ w'.cell? ⟨w.heap.size, 1, none⟩ = some (.int .i64 u.journal) ∧ w'.cell? ⟨w.heap.size, 2, none⟩ = some (.int .i64 u.area) ∧ w'.cell? ⟨w.heap.size, 3, none⟩ = some (.int .i64 u.which) ∧ w'.cell? ⟨w.heap.size, 4, none⟩ = some (.int .i64 u.len) ∧ w'.cell? ⟨w.heap.size, 5, none⟩ = some (.int .u32 u.sum) ∧ w'.cell? ⟨w.heap.size, 6, none⟩ = some (.int .i64 u.epoch) ∧ w'.cell? ⟨w.heap.size, 7, none⟩ = some (.int .i64 u.start) ∧ w'.cell? ⟨q1, 0, none⟩ = some (.int .i64 r.gen) ∧ w'.cell? ⟨q1, 1, none⟩ = some (.int .i64 r.journal) ∧ w'.cell? ⟨q1, 2, none⟩ = some (.int .i64 r.area) ∧ w'.cell? ⟨q1, 3, none⟩ = some (.int .i64 r.which) ∧ w'.cell? ⟨q1, 4, none⟩ = some (.int .i64 r.len) ∧ w'.cell? ⟨q1, 5, none⟩ = some (.int .u32 r.sum) ∧ w'.cell? ⟨q1, 6, none⟩ = some (.int .i64 r.epoch) ∧ w'.cell? ⟨q1, 7, none⟩ = some (.int .i64 r.start) ∧ w'.cell? ⟨q4, 0, none⟩ = some (.int .i64 u.gen) ∧ w'.cell? ⟨q4, 1, none⟩ = some (.int .i64 u.journal) ∧ w'.cell? ⟨q4, 2, none⟩ = some (.int .i64 u.area) ∧ w'.cell? ⟨q4, 3, none⟩ = some (.int .i64 u.which) ∧ w'.cell? ⟨q4, 4, none⟩ = some (.int .i64 u.len) ∧ w'.cell? ⟨q4, 5, none⟩ = some (.int .u32 u.sum) ∧ w'.cell? ⟨q4, 6, none⟩ = some (.int .i64 u.epoch) ∧ w'.cell? ⟨q4, 7, none⟩ = some (.int .i64 u.start)) := fun w' h => by
    obtain ⟨a0, a1, a2, a3, a4, a5, a6, a7⟩ := (US.out w' (L3.out.trans (h.mono L3.out.size))).cells
    obtain ⟨b0, b1, b2, b3, b4, b5, b6, b7⟩ := (F1.out.same h F1.out.lt).cells
    obtain ⟨c0, c1, c2, c3, c4, c5, c6, c7⟩ := (L1.out.same h L1.out.lt).cells
    exact ⟨a0, a1, a2, a3, a4, a5, a6, a7, b0, b1, b2, b3, b4, b5, b6, b7, c0, c1, c2, c3, c4, c5, c6, c7⟩
  go_region_held3 (fun w' => w'.cell? ⟨w.heap.size, 0, none⟩ = some (.int .i64 u.gen) ∧ w'.cell? ⟨w.heap.size, 1, none⟩ = some (.int .i64 u.journal) ∧ w'.cell? ⟨w.heap.size, 2, none⟩ = some (.int .i64 u.area) ∧ w'.cell? ⟨w.heap.size, 3, none⟩ = some (.int .i64 u.which) ∧ w'.cell? ⟨w.heap.size, 4, none⟩ = some (.int .i64 u.len) ∧ w'.cell? ⟨w.heap.size, 5, none⟩ = some (.int .u32 u.sum) ∧ w'.cell? ⟨w.heap.size, 6, none⟩ = some (.int .i64 u.epoch) ∧ w'.cell? ⟨w.heap.size, 7, none⟩ = some (.int .i64 u.start) ∧ w'.cell? ⟨q1, 0, none⟩ = some (.int .i64 r.gen) ∧ w'.cell? ⟨q1, 1, none⟩ = some (.int .i64 r.journal) ∧ w'.cell? ⟨q1, 2, none⟩ = some (.int .i64 r.area) ∧ w'.cell? ⟨q1, 3, none⟩ = some (.int .i64 r.which) ∧ w'.cell? ⟨q1, 4, none⟩ = some (.int .i64 r.len) ∧ w'.cell? ⟨q1, 5, none⟩ = some (.int .u32 r.sum) ∧ w'.cell? ⟨q1, 6, none⟩ = some (.int .i64 r.epoch) ∧ w'.cell? ⟨q1, 7, none⟩ = some (.int .i64 r.start) ∧ w'.cell? ⟨q4, 0, none⟩ = some (.int .i64 u.gen) ∧ w'.cell? ⟨q4, 1, none⟩ = some (.int .i64 u.journal) ∧ w'.cell? ⟨q4, 2, none⟩ = some (.int .i64 u.area) ∧ w'.cell? ⟨q4, 3, none⟩ = some (.int .i64 u.which) ∧ w'.cell? ⟨q4, 4, none⟩ = some (.int .i64 u.len) ∧ w'.cell? ⟨q4, 5, none⟩ = some (.int .u32 u.sum) ∧ w'.cell? ⟨q4, 6, none⟩ = some (.int .i64 u.epoch) ∧ w'.cell? ⟨q4, 7, none⟩ = some (.int .i64 u.start)) (first | exact HE.out _ (Below.refl _ _).drew | exact HE.out _ HBa.out) (first
    | (go_at_call 19; refine (HPl.out Y4.drew).mono ?_; rintro e wa ⟨rfl, hba⟩; have HBa : Hid (Below Y4.heap.size Y4 wa) := below_undrew hba; clear hba))
  all_goals
    obtain ⟨k0, k1, k2, k3, k4, k5, k6, k7, b0, b1, b2, b3, b4, b5, b6, b7, c0, c1, c2, c3, c4, c5, c6, c7⟩ := HE.out _ HBa.out
    obtain ⟨d0, d1, d2, d3, d4, d5, d6, d7⟩ := (F2.out.same HBa.out F2.out.lt).cells
    obtain ⟨e0, e1, e2, e3, e4, e5, e6, e7⟩ := (F3.out.same HBa.out F3.out.lt).cells
    have HBw : Hid (Below w.heap.size w wa) := B5.out.trans ((L3.out.trans (HBa.out.mono L3.out.size)).mono B5.out.size)
    have n1 : ¬ u.gen = r.gen := by have := HUG.out; have := HRG.out; omega
    have n2 : (u.gen == r.gen) = false := by simpa using n1
    rcases HVV.out with rfl | rfl
    · go_wp2
      go_ret
      exact ⟨rfl, HBw.out⟩
    · go_wp2
      go_ret
      exact ⟨rfl, HBw.out⟩

theorem superTurns_walk (g : Int) (s : Sup) (cut : Int) (w : World) (ht : Steps w) (f0 : (Lit.int .i64 g).wf = true) (hs : s.Fits) (f : (Lit.int .i64 cut).wf = true) : Calls Tryd.prog 5 #[.int .i64 g, sval s, .int .i64 cut] w fun e w' => e = .returned (.bool true) ∧ Below w.heap.size w w' := by
  by_cases h : g < 1 ∨ 140737488355328 < g
  · exact turns_out g s cut w ht hs h
  · have h1 : 1 ≤ g := by omega
    have h2 : g ≤ 140737488355328 := by omega
    have fu : Sup.Fits { s with gen := g + 1 } := ⟨⟨by show _ ≤ g + 1; omega, by show g + 1 ≤ _; omega⟩, hs.journal, hs.area, hs.which, hs.len, hs.sum, hs.epoch, hs.start⟩
    by_cases hk : okS { s with gen := g + 1 } = true
    · by_cases hp : g % 2 = 0
      · exact turns_main0 g s cut w ht hs h1 h2 hp _ rfl fu hk
      · exact turns_main1 g s cut w ht hs h1 h2 (by omega) _ rfl fu hk
    · exact turns_wrong g s cut w ht hs h1 h2 _ rfl fu (by simpa using hk)
end Go.Proofs.YtgbibhbmcbbbhaaDoor
