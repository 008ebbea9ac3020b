/- The law SuperPuts, walked. (Written by wip/mk_laws5.py.) -/
import Derived.Test.YtgbibhbmcbbbhaaDoorWalkAwake5
namespace Go.Proofs.YtgbibhbmcbbbhaaDoor
open Go.RowKit
set_option linter.unusedVariables false


/-- What a superblock's eight cells say, as one fact that a region holds. -/
def Held8 (w' : World) (b : Nat) (s : Sup) : Prop := w'.cell? ⟨b, 0, none⟩ = some (.int .i64 s.gen) ∧ w'.cell? ⟨b, 1, none⟩ = some (.int .i64 s.journal) ∧ w'.cell? ⟨b, 2, none⟩ = some (.int .i64 s.area) ∧ w'.cell? ⟨b, 3, none⟩ = some (.int .i64 s.which) ∧ w'.cell? ⟨b, 4, none⟩ = some (.int .i64 s.len) ∧ w'.cell? ⟨b, 5, none⟩ = some (.int .u32 s.sum) ∧ w'.cell? ⟨b, 6, none⟩ = some (.int .i64 s.epoch) ∧ w'.cell? ⟨b, 7, none⟩ = some (.int .i64 s.start)
theorem SupAt.held {w : World} {b : Nat} {s : Sup} (h : SupAt w b s) : Held8 w b s := h.cells

set_option maxHeartbeats 1000000 in
set_option maxRecDepth 20000 in
theorem superPuts_walk (s : Sup) (w : World) (ht : Steps w) (hf : s.Fits) : Calls Tryd.prog 3 #[sval s] w fun e w' => e = .returned (.bool true) ∧ Below w.heap.size w w' := by
  have HT : Hid (Steps w) := ht
  have HF : Hid s.Fits := hf
  clear ht hf
  go_enter Tryd.func3, Tryd.ntmps3
  go_wp2_with fail
  refine (awake5 _ (HT.out.alloc _)).mono ?_
  rintro e w1 ⟨rfl, hb1⟩
  have S1 : Hid (SupAt w1 w.heap.size s) := SupAt.same (heap_alloc_new w _) hb1 (by simp)
  have B1 : Hid (Below w.heap.size w w1) := ((Below.refl _ _).alloc (Nat.le_refl _) _).trans (hb1.mono (by simp))
  clear hb1
  obtain ⟨k0, k1, k2, k3, k4, k5, k6, k7⟩ := S1.out.cells
  by_cases hok : okS s = true
  · go_wp2_with fail
    refine (put_ok s HF.out hok _ (HT.out.below B1.out)).mono ?_
    rintro e w2 ⟨p, rfl, g2, hp, hb2⟩
    have S2 : Hid (SupAt w2 w.heap.size s) := S1.out.same hb2 S1.out.lt
    have B2 : Hid (Below w.heap.size w w2) := B1.out.trans (hb2.mono B1.out.size)
    have G2 : Hid (w2.heap[p]? = some (.cells (u8s (sect s)).toArray 43 (0, 0))) := g2
    have HL : Hid ((sect s).length = 128) := sect_length s
    have HS : Hid (∀ z ∈ sect s, z < 256) := sect_small s
    have HG : Hid (getS (sect s) = some s) := by unfold Hid getS; rw [if_pos (sect_length s)]; exact toldS_sect s HF.out hok
    have HRP := refPut5 s HF.out
    have HR : Hid (∀ w, Calls Tryd.prog 13 #[sval s] w fun e w' => e = .returned (.string (strN (sect s))) ∧ Below w.heap.size w w') := HRP
    clear g2 hb2 k0 k1 k2 k3 k4 k5 k6 k7 HRP hp
    generalize sect s = X at *
    have HD : Hid (∀ w', Below w2.heap.size w2 w' → w'.cell? ⟨w.heap.size, 0, none⟩ = some (.int .i64 s.gen) ∧ w'.cell? ⟨w.heap.size, 1, none⟩ = some (.int .i64 s.journal) ∧ w'.cell? ⟨w.heap.size, 2, none⟩ = some (.int .i64 s.area) ∧ w'.cell? ⟨w.heap.size, 3, none⟩ = some (.int .i64 s.which) ∧ w'.cell? ⟨w.heap.size, 4, none⟩ = some (.int .i64 s.len) ∧ w'.cell? ⟨w.heap.size, 5, none⟩ = some (.int .u32 s.sum) ∧ w'.cell? ⟨w.heap.size, 6, none⟩ = some (.int .i64 s.epoch) ∧ w'.cell? ⟨w.heap.size, 7, none⟩ = some (.int .i64 s.start)) := fun w' h => (S2.out.same h S2.out.lt).cells
    go_wp2_with fail
    go_region_held3 (fun w' => w'.cell? ⟨w.heap.size, 0, none⟩ = some (.int .i64 s.gen) ∧ w'.cell? ⟨w.heap.size, 1, none⟩ = some (.int .i64 s.journal) ∧ w'.cell? ⟨w.heap.size, 2, none⟩ = some (.int .i64 s.area) ∧ w'.cell? ⟨w.heap.size, 3, none⟩ = some (.int .i64 s.which) ∧ w'.cell? ⟨w.heap.size, 4, none⟩ = some (.int .i64 s.len) ∧ w'.cell? ⟨w.heap.size, 5, none⟩ = some (.int .u32 s.sum) ∧ w'.cell? ⟨w.heap.size, 6, none⟩ = some (.int .i64 s.epoch) ∧ w'.cell? ⟨w.heap.size, 7, none⟩ = some (.int .i64 s.start)) (first | exact HD.out _ (Below.refl _ _).drew | exact HD.out _ HBa.out | exact HD.out _ HBd.out) (first
      | (go_at_call 10; refine (right5 s HF.out w2.drew).mono ?_; rintro e wa ⟨rfl, hba⟩; have HBa : Hid (Below w2.heap.size w2 wa) := below_undrew hba; clear hba)
      | (go_at_call 11; refine (refRight5 s HF.out wa).mono ?_; rintro e wd ⟨rfl, hbd⟩; have HBd : Hid (Below w2.heap.size w2 wd) := HBa.out.trans (hbd.mono HBa.out.size); clear hbd))
    obtain ⟨k0, k1, k2, k3, k4, k5, k6, k7⟩ := HD.out wd HBd.out
    go_wp2_with fail
    refine (refRight5 s HF.out wd).mono ?_
    rintro e w5 ⟨rfl, hb5⟩
    have HB5 : Hid (Below w2.heap.size w2 w5) := HBd.out.trans (hb5.mono HBd.out.size)
    rw [hok]
    have HO5 : Hid (Octs w5 (.slice (some ⟨p, 0, none⟩) 128 128) X) := octs_row0 (row_same G2.out HB5.out (lt_of_heap G2.out)) HS.out HL.out (by decide)
    clear hb5 k0 k1 k2 k3 k4 k5 k6 k7
    go_wp2_with fail
    refine (get5 _ X _ HO5.out ((HT.out.below B2.out).below HB5.out)).mono ?_
    rintro e w6 ⟨rfl, hb6⟩
    rw [HG.out]
    have HV : Hid (toldV (some s) = .tuple #[.agg #[.int .i64 s.gen, .int .i64 s.journal, .int .i64 s.area, .int .i64 s.which, .int .i64 s.len, .int .u32 s.sum, .int .i64 s.epoch, .int .i64 s.start], .bool true]) := rfl
    rw [HV.out]
    have HB6 : Hid (Below w2.heap.size w2 w6) := HB5.out.trans (hb6.mono HB5.out.size)
    clear hb6
    go_wp2_with fail
    have T7 : Hid (SupAt (w6.alloc (.cells #[.int .i64 s.gen, .int .i64 s.journal, .int .i64 s.area, .int .i64 s.which, .int .i64 s.len, .int .u32 s.sum, .int .i64 s.epoch, .int .i64 s.start] 24)) w6.heap.size s) := heap_alloc_new _ _
    have HB7 : Hid (Below w2.heap.size w2 (w6.alloc (.cells #[.int .i64 s.gen, .int .i64 s.journal, .int .i64 s.area, .int .i64 s.which, .int .i64 s.len, .int .u32 s.sum, .int .i64 s.epoch, .int .i64 s.start] 24))) := HB6.out.alloc HB6.out.size _
    generalize w6.alloc (.cells #[.int .i64 s.gen, .int .i64 s.journal, .int .i64 s.area, .int .i64 s.which, .int .i64 s.len, .int .u32 s.sum, .int .i64 s.epoch, .int .i64 s.start] 24) = V at T7 HB7 ⊢
    generalize w6.heap.size = q at T7 ⊢
    have HE : Hid (∀ w', Below V.heap.size V w' → w'.cell? ⟨w.heap.size, 0, none⟩ = some (.int .i64 s.gen) ∧ w'.cell? ⟨w.heap.size, 1, none⟩ = some (.int .i64 s.journal) ∧ w'.cell? ⟨w.heap.size, 2, none⟩ = some (.int .i64 s.area) ∧ w'.cell? ⟨w.heap.size, 3, none⟩ = some (.int .i64 s.which) ∧ w'.cell? ⟨w.heap.size, 4, none⟩ = some (.int .i64 s.len) ∧ w'.cell? ⟨w.heap.size, 5, none⟩ = some (.int .u32 s.sum) ∧ w'.cell? ⟨w.heap.size, 6, none⟩ = some (.int .i64 s.epoch) ∧ w'.cell? ⟨w.heap.size, 7, none⟩ = some (.int .i64 s.start) ∧ w'.cell? ⟨q, 0, none⟩ = some (.int .i64 s.gen) ∧ w'.cell? ⟨q, 1, none⟩ = some (.int .i64 s.journal) ∧ w'.cell? ⟨q, 2, none⟩ = some (.int .i64 s.area) ∧ w'.cell? ⟨q, 3, none⟩ = some (.int .i64 s.which) ∧ w'.cell? ⟨q, 4, none⟩ = some (.int .i64 s.len) ∧ w'.cell? ⟨q, 5, none⟩ = some (.int .u32 s.sum) ∧ w'.cell? ⟨q, 6, none⟩ = some (.int .i64 s.epoch) ∧ w'.cell? ⟨q, 7, none⟩ = some (.int .i64 s.start) ∧ (convert 26 9 (.slice (some ⟨p, 0, none⟩) 128 128)).run Tryd.prog w' = .ok (.string (strN X)) w') := fun w' h => by
      have h2 := HB7.out.trans (h.mono HB7.out.size)
      obtain ⟨a0, a1, a2, a3, a4, a5, a6, a7⟩ := HD.out w' h2
      obtain ⟨b0, b1, b2, b3, b4, b5, b6, b7⟩ := (T7.out.same h T7.out.lt).cells
      exact ⟨a0, a1, a2, a3, a4, a5, a6, a7, b0, b1, b2, b3, b4, b5, b6, b7, conv_octs (P := Tryd.prog) (octs_row0 (row_same G2.out h2 (lt_of_heap G2.out)) HS.out HL.out (by decide)) _ _ _ Tryd.underlying26 Tryd.underlying5 Tryd.underlying9⟩
    go_region_held (fun w' => w'.cell? ⟨w.heap.size, 0, none⟩ = some (.int .i64 s.gen) ∧ w'.cell? ⟨w.heap.size, 1, none⟩ = some (.int .i64 s.journal) ∧ w'.cell? ⟨w.heap.size, 2, none⟩ = some (.int .i64 s.area) ∧ w'.cell? ⟨w.heap.size, 3, none⟩ = some (.int .i64 s.which) ∧ w'.cell? ⟨w.heap.size, 4, none⟩ = some (.int .i64 s.len) ∧ w'.cell? ⟨w.heap.size, 5, none⟩ = some (.int .u32 s.sum) ∧ w'.cell? ⟨w.heap.size, 6, none⟩ = some (.int .i64 s.epoch) ∧ w'.cell? ⟨w.heap.size, 7, none⟩ = some (.int .i64 s.start) ∧ w'.cell? ⟨q, 0, none⟩ = some (.int .i64 s.gen) ∧ w'.cell? ⟨q, 1, none⟩ = some (.int .i64 s.journal) ∧ w'.cell? ⟨q, 2, none⟩ = some (.int .i64 s.area) ∧ w'.cell? ⟨q, 3, none⟩ = some (.int .i64 s.which) ∧ w'.cell? ⟨q, 4, none⟩ = some (.int .i64 s.len) ∧ w'.cell? ⟨q, 5, none⟩ = some (.int .u32 s.sum) ∧ w'.cell? ⟨q, 6, none⟩ = some (.int .i64 s.epoch) ∧ w'.cell? ⟨q, 7, none⟩ = some (.int .i64 s.start) ∧ (convert 26 9 (.slice (some ⟨p, 0, none⟩) 128 128)).run Tryd.prog w' = .ok (.string (strN X)) w') (first | exact HE.out _ (Below.refl _ _).drew | exact HE.out _ HBe.out) (first
      | (go_at_call 13; refine (HR.out V.drew).mono ?_; rintro e we ⟨rfl, hbe⟩; have HBe : Hid (Below V.heap.size V we) := below_undrew hbe; clear hbe))
    all_goals
      go_wp2
      go_ret
      exact ⟨rfl, (B2.out.trans (HB7.out.mono B2.out.size)).trans (HBe.out.mono (Nat.le_trans B2.out.size HB7.out.size))⟩
  · have hok' : okS s = false := by simpa using hok
    go_wp2_with fail
    refine (put_no s HF.out hok' _).mono ?_
    rintro e w2 ⟨rfl, hb2⟩
    have S2 : Hid (SupAt w2 w.heap.size s) := S1.out.same hb2 S1.out.lt
    have B2 : Hid (Below w.heap.size w w2) := B1.out.trans (hb2.mono B1.out.size)
    clear hb2 k0 k1 k2 k3 k4 k5 k6 k7
    have HD : Hid (∀ w', Below w2.heap.size w2 w' → w'.cell? ⟨w.heap.size, 0, none⟩ = some (.int .i64 s.gen) ∧ w'.cell? ⟨w.heap.size, 1, none⟩ = some (.int .i64 s.journal) ∧ w'.cell? ⟨w.heap.size, 2, none⟩ = some (.int .i64 s.area) ∧ w'.cell? ⟨w.heap.size, 3, none⟩ = some (.int .i64 s.which) ∧ w'.cell? ⟨w.heap.size, 4, none⟩ = some (.int .i64 s.len) ∧ w'.cell? ⟨w.heap.size, 5, none⟩ = some (.int .u32 s.sum) ∧ w'.cell? ⟨w.heap.size, 6, none⟩ = some (.int .i64 s.epoch) ∧ w'.cell? ⟨w.heap.size, 7, none⟩ = some (.int .i64 s.start)) := fun w' h => (S2.out.same h S2.out.lt).cells
    go_wp2_with fail
    go_region_held3 (fun w' => w'.cell? ⟨w.heap.size, 0, none⟩ = some (.int .i64 s.gen) ∧ w'.cell? ⟨w.heap.size, 1, none⟩ = some (.int .i64 s.journal) ∧ w'.cell? ⟨w.heap.size, 2, none⟩ = some (.int .i64 s.area) ∧ w'.cell? ⟨w.heap.size, 3, none⟩ = some (.int .i64 s.which) ∧ w'.cell? ⟨w.heap.size, 4, none⟩ = some (.int .i64 s.len) ∧ w'.cell? ⟨w.heap.size, 5, none⟩ = some (.int .u32 s.sum) ∧ w'.cell? ⟨w.heap.size, 6, none⟩ = some (.int .i64 s.epoch) ∧ w'.cell? ⟨w.heap.size, 7, none⟩ = some (.int .i64 s.start)) (first | exact HD.out _ (Below.refl _ _).drew | exact HD.out _ HBa.out | exact HD.out _ HBd.out) (first
      | (go_at_call 10; refine (right5 s HF.out w2.drew).mono ?_; rintro e wa ⟨rfl, hba⟩; have HBa : Hid (Below w2.heap.size w2 wa) := below_undrew hba; clear hba)
      | (go_at_call 11; refine (refRight5 s HF.out wa).mono ?_; rintro e wd ⟨rfl, hbd⟩; have HBd : Hid (Below w2.heap.size w2 wd) := HBa.out.trans (hbd.mono HBa.out.size); clear hbd))
    obtain ⟨k0, k1, k2, k3, k4, k5, k6, k7⟩ := HD.out wd HBd.out
    go_wp2_with fail
    refine (refRight5 s HF.out wd).mono ?_
    rintro e w5 ⟨rfl, hb5⟩
    have HB5 : Hid (Below w2.heap.size w2 w5) := HBd.out.trans (hb5.mono HBd.out.size)
    rw [hok']
    clear hb5 k0 k1 k2 k3 k4 k5 k6 k7
    go_wp2
    go_ret
    exact ⟨rfl, B2.out.trans (HB5.out.mono B2.out.size)⟩
end Go.Proofs.YtgbibhbmcbbbhaaDoor
