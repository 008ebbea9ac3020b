/- The law SuperTorn, walked. (Written by wip/mk_laws5.py.) -/
import Derived.Test.YtgbibhbmcbbbhaaDoorLawTurned5
import Derived.Test.YtgbibhbmcbbbhaaDoorMathTorn5
import Derived.Test.YtgbibhbmcbbbhaaDoorAppZeros5
import Derived.Deep.RegionLaw
namespace Go.Proofs.YtgbibhbmcbbbhaaDoor
open Go.RowKit
set_option linter.unusedVariables false


theorem two_sups (w : World) (s t : Sup) : SupAt ((w.alloc (.cells #[.int .i64 s.gen, .int .i64 s.journal, .int .i64 s.area, .int .i64 s.which, .int .i64 s.len, .int .u32 s.sum, .int .i64 s.epoch, .int .i64 s.start] 24)).alloc (.cells #[.int .i64 t.gen, .int .i64 t.journal, .int .i64 t.area, .int .i64 t.which, .int .i64 t.len, .int .u32 t.sum, .int .i64 t.epoch, .int .i64 t.start] 24)) w.heap.size s ∧ SupAt ((w.alloc (.cells #[.int .i64 s.gen, .int .i64 s.journal, .int .i64 s.area, .int .i64 s.which, .int .i64 s.len, .int .u32 s.sum, .int .i64 s.epoch, .int .i64 s.start] 24)).alloc (.cells #[.int .i64 t.gen, .int .i64 t.journal, .int .i64 t.area, .int .i64 t.which, .int .i64 t.len, .int .u32 t.sum, .int .i64 t.epoch, .int .i64 t.start] 24)) (w.heap.size + 1) t ∧ Below w.heap.size w ((w.alloc (.cells #[.int .i64 s.gen, .int .i64 s.journal, .int .i64 s.area, .int .i64 s.which, .int .i64 s.len, .int .u32 s.sum, .int .i64 s.epoch, .int .i64 s.start] 24)).alloc (.cells #[.int .i64 t.gen, .int .i64 t.journal, .int .i64 t.area, .int .i64 t.which, .int .i64 t.len, .int .u32 t.sum, .int .i64 t.epoch, .int .i64 t.start] 24)) := by
  refine ⟨SupAt.same (B := w.heap.size + 1) (heap_alloc_new w _) ((Below.refl _ _).alloc (by simp) _) (by omega), ?_, ((Below.refl _ _).alloc (Nat.le_refl _) _).alloc (by simp) _⟩
  have := heap_alloc_new (w.alloc (.cells #[.int .i64 s.gen, .int .i64 s.journal, .int .i64 s.area, .int .i64 s.which, .int .i64 s.len, .int .u32 s.sum, .int .i64 s.epoch, .int .i64 s.start] 24)) (.cells #[.int .i64 t.gen, .int .i64 t.journal, .int .i64 t.area, .int .i64 t.which, .int .i64 t.len, .int .u32 t.sum, .int .i64 t.epoch, .int .i64 t.start] 24)
  rwa [show (w.alloc (.cells #[.int .i64 s.gen, .int .i64 s.journal, .int .i64 s.area, .int .i64 s.which, .int .i64 s.len, .int .u32 s.sum, .int .i64 s.epoch, .int .i64 s.start] 24)).heap.size = w.heap.size + 1 by simp] at this

set_option maxHeartbeats 1000000 in
set_option maxRecDepth 20000 in
theorem torn_no1 (s t : Sup) (cut : Int) (w : World) (ht : Steps w) (hs : s.Fits) (hg : t.Fits) (hok : okS s = false) : Calls Tryd.prog 7 #[sval s, sval t, .int .i64 cut] w fun e w' => e = .returned (.bool true) ∧ Below w.heap.size w w' := by
  have HT : Hid (Steps w) := ht
  have HF : Hid s.Fits := hs
  have HG : Hid t.Fits := hg
  clear ht hs hg
  go_enter Tryd.func7, Tryd.ntmps7
  go_wp2_with fail
  refine (awake5 _ ((HT.out.alloc _).alloc _)).mono ?_
  rintro e w1 ⟨rfl, hb1⟩
  have S1 : Hid (SupAt w1 w.heap.size s) := (two_sups w s t).1.same hb1 (by simp; omega)
  have T1 : Hid (SupAt w1 (w.heap.size + 1) t) := (two_sups w s t).2.1.same hb1 (by simp)
  have B1 : Hid (Below w.heap.size w w1) := (two_sups w s t).2.2.trans (hb1.mono (by simp; omega))
  clear hb1
  obtain ⟨k0, k1, k2, k3, k4, k5, k6, k7⟩ := S1.out.cells
  go_wp2_with fail
  refine (refRight5 s HF.out w1).mono ?_
  rintro e w2 ⟨rfl, hb2⟩
  rw [hok]
  have S2 : Hid (SupAt w2 w.heap.size s) := S1.out.same hb2 S1.out.lt
  have T2 : Hid (SupAt w2 (w.heap.size + 1) t) := T1.out.same hb2 T1.out.lt
  have B2 : Hid (Below w.heap.size w w2) := B1.out.trans (hb2.mono B1.out.size)
  clear hb2 k0 k1 k2 k3 k4 k5 k6 k7
  go_wp2_with fail
  refine (awake5 _ (HT.out.below B2.out)).mono ?_
  rintro e w9 ⟨rfl, hb9⟩
  go_wp2
  go_ret
  exact ⟨rfl, B2.out.trans (hb9.mono B2.out.size)⟩

set_option maxHeartbeats 1000000 in
set_option maxRecDepth 20000 in
theorem torn_no2 (s t : Sup) (cut : Int) (w : World) (ht : Steps w) (hs : s.Fits) (hg : t.Fits) (hok : okS s = true) (hokt : okS t = false) : Calls Tryd.prog 7 #[sval s, sval t, .int .i64 cut] w fun e w' => e = .returned (.bool true) ∧ Below w.heap.size w w' := by
  have HT : Hid (Steps w) := ht
  have HF : Hid s.Fits := hs
  have HG : Hid t.Fits := hg
  clear ht hs hg
  go_enter Tryd.func7, Tryd.ntmps7
  go_wp2_with fail
  refine (awake5 _ ((HT.out.alloc _).alloc _)).mono ?_
  rintro e w1 ⟨rfl, hb1⟩
  have S1 : Hid (SupAt w1 w.heap.size s) := (two_sups w s t).1.same hb1 (by simp; omega)
  have T1 : Hid (SupAt w1 (w.heap.size + 1) t) := (two_sups w s t).2.1.same hb1 (by simp)
  have B1 : Hid (Below w.heap.size w w1) := (two_sups w s t).2.2.trans (hb1.mono (by simp; omega))
  clear hb1
  obtain ⟨k0, k1, k2, k3, k4, k5, k6, k7⟩ := S1.out.cells
  go_wp2_with fail
  refine (refRight5 s HF.out w1).mono ?_
  rintro e w2 ⟨rfl, hb2⟩
  rw [hok]
  have S2 : Hid (SupAt w2 w.heap.size s) := S1.out.same hb2 S1.out.lt
  have T2 : Hid (SupAt w2 (w.heap.size + 1) t) := T1.out.same hb2 T1.out.lt
  have B2 : Hid (Below w.heap.size w w2) := B1.out.trans (hb2.mono B1.out.size)
  clear hb2 k0 k1 k2 k3 k4 k5 k6 k7
  obtain ⟨k0, k1, k2, k3, k4, k5, k6, k7⟩ := T2.out.cells
  go_wp2_with fail
  refine (refRight5 t HG.out w2).mono ?_
  rintro e w3 ⟨rfl, hb3⟩
  rw [hokt]
  have S3 : Hid (SupAt w3 w.heap.size s) := S2.out.same hb3 S2.out.lt
  have T3 : Hid (SupAt w3 (w.heap.size + 1) t) := T2.out.same hb3 T2.out.lt
  have B3 : Hid (Below w.heap.size w w3) := B2.out.trans (hb3.mono B2.out.size)
  clear hb3 k0 k1 k2 k3 k4 k5 k6 k7
  go_wp2_with fail
  refine (awake5 _ (HT.out.below B3.out)).mono ?_
  rintro e w9 ⟨rfl, hb9⟩
  go_wp2
  go_ret
  exact ⟨rfl, B3.out.trans (hb9.mono B3.out.size)⟩

set_option maxHeartbeats 1000000 in
set_option maxRecDepth 20000 in
theorem torn_no3 (s t : Sup) (cut : Int) (w : World) (ht : Steps w) (hs : s.Fits) (hg : t.Fits) (hok : okS s = true) (hokt : okS t = true) (hlt : t.gen ≤ s.gen) : Calls Tryd.prog 7 #[sval s, sval t, .int .i64 cut] w fun e w' => e = .returned (.bool true) ∧ Below w.heap.size w w' := by
  have HT : Hid (Steps w) := ht
  have HF : Hid s.Fits := hs
  have HG : Hid t.Fits := hg
  clear ht hs hg
  go_enter Tryd.func7, Tryd.ntmps7
  go_wp2_with fail
  refine (awake5 _ ((HT.out.alloc _).alloc _)).mono ?_
  rintro e w1 ⟨rfl, hb1⟩
  have S1 : Hid (SupAt w1 w.heap.size s) := (two_sups w s t).1.same hb1 (by simp; omega)
  have T1 : Hid (SupAt w1 (w.heap.size + 1) t) := (two_sups w s t).2.1.same hb1 (by simp)
  have B1 : Hid (Below w.heap.size w w1) := (two_sups w s t).2.2.trans (hb1.mono (by simp; omega))
  clear hb1
  obtain ⟨k0, k1, k2, k3, k4, k5, k6, k7⟩ := S1.out.cells
  go_wp2_with fail
  refine (refRight5 s HF.out w1).mono ?_
  rintro e w2 ⟨rfl, hb2⟩
  rw [hok]
  have S2 : Hid (SupAt w2 w.heap.size s) := S1.out.same hb2 S1.out.lt
  have T2 : Hid (SupAt w2 (w.heap.size + 1) t) := T1.out.same hb2 T1.out.lt
  have B2 : Hid (Below w.heap.size w w2) := B1.out.trans (hb2.mono B1.out.size)
  clear hb2 k0 k1 k2 k3 k4 k5 k6 k7
  obtain ⟨k0, k1, k2, k3, k4, k5, k6, k7⟩ := T2.out.cells
  go_wp2_with fail
  refine (refRight5 t HG.out w2).mono ?_
  rintro e w3 ⟨rfl, hb3⟩
  rw [hokt]
  have S3 : Hid (SupAt w3 w.heap.size s) := S2.out.same hb3 S2.out.lt
  have T3 : Hid (SupAt w3 (w.heap.size + 1) t) := T2.out.same hb3 T2.out.lt
  have B3 : Hid (Below w.heap.size w w3) := B2.out.trans (hb3.mono B2.out.size)
  clear hb3 k0 k1 k2 k3 k4 k5 k6 k7
  obtain ⟨k0, _⟩ := S3.out.cells
  obtain ⟨l0, _⟩ := T3.out.cells
  go_wp2_with fail
  refine (awake5 _ (HT.out.below B3.out)).mono ?_
  rintro e w9 ⟨rfl, hb9⟩
  go_wp2
  go_ret
  exact ⟨rfl, B3.out.trans (hb9.mono B3.out.size)⟩

set_option maxHeartbeats 1000000 in
set_option maxRecDepth 20000 in
theorem torn_no4 (s t : Sup) (cut : Int) (w : World) (ht : Steps w) (hs : s.Fits) (hg : t.Fits) (hok : okS s = true) (hokt : okS t = true) (hlt : s.gen < t.gen) (h255 : 255 < t.gen) : Calls Tryd.prog 7 #[sval s, sval t, .int .i64 cut] w fun e w' => e = .returned (.bool true) ∧ Below w.heap.size w w' := by
  have HT : Hid (Steps w) := ht
  have HF : Hid s.Fits := hs
  have HG : Hid t.Fits := hg
  clear ht hs hg
  go_enter Tryd.func7, Tryd.ntmps7
  go_wp2_with fail
  refine (awake5 _ ((HT.out.alloc _).alloc _)).mono ?_
  rintro e w1 ⟨rfl, hb1⟩
  have S1 : Hid (SupAt w1 w.heap.size s) := (two_sups w s t).1.same hb1 (by simp; omega)
  have T1 : Hid (SupAt w1 (w.heap.size + 1) t) := (two_sups w s t).2.1.same hb1 (by simp)
  have B1 : Hid (Below w.heap.size w w1) := (two_sups w s t).2.2.trans (hb1.mono (by simp; omega))
  clear hb1
  obtain ⟨k0, k1, k2, k3, k4, k5, k6, k7⟩ := S1.out.cells
  go_wp2_with fail
  refine (refRight5 s HF.out w1).mono ?_
  rintro e w2 ⟨rfl, hb2⟩
  rw [hok]
  have S2 : Hid (SupAt w2 w.heap.size s) := S1.out.same hb2 S1.out.lt
  have T2 : Hid (SupAt w2 (w.heap.size + 1) t) := T1.out.same hb2 T1.out.lt
  have B2 : Hid (Below w.heap.size w w2) := B1.out.trans (hb2.mono B1.out.size)
  clear hb2 k0 k1 k2 k3 k4 k5 k6 k7
  obtain ⟨k0, k1, k2, k3, k4, k5, k6, k7⟩ := T2.out.cells
  go_wp2_with fail
  refine (refRight5 t HG.out w2).mono ?_
  rintro e w3 ⟨rfl, hb3⟩
  rw [hokt]
  have S3 : Hid (SupAt w3 w.heap.size s) := S2.out.same hb3 S2.out.lt
  have T3 : Hid (SupAt w3 (w.heap.size + 1) t) := T2.out.same hb3 T2.out.lt
  have B3 : Hid (Below w.heap.size w w3) := B2.out.trans (hb3.mono B2.out.size)
  clear hb3 k0 k1 k2 k3 k4 k5 k6 k7
  obtain ⟨k0, _⟩ := S3.out.cells
  obtain ⟨l0, _⟩ := T3.out.cells
  have hlt' : ¬ t.gen ≤ s.gen := by omega
  go_wp2_with fail
  refine (awake5 _ (HT.out.below B3.out)).mono ?_
  rintro e w9 ⟨rfl, hb9⟩
  go_wp2
  go_ret
  exact ⟨rfl, B3.out.trans (hb9.mono B3.out.size)⟩

end Go.Proofs.YtgbibhbmcbbbhaaDoor
