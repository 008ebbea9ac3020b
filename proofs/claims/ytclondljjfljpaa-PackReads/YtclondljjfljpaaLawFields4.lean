/- The walk of the law 'PackFields' for every input. -/
import Derived.Test.YtclondljjfljpaaWalkAwake4
import Derived.Test.YtclondljjfljpaaWalkRef4
import Derived.Test.YtclondljjfljpaaFieldsMath4
namespace Go.Proofs.Ytclondljjfljpaa
open Go.RowKit
set_option linter.unusedVariables false

theorem four_cells (w : World) (t : TypeId) (v0 v1 v2 v3 : Value) : (w.alloc (.cells #[v0, v1, v2, v3] t)).cell? ⟨w.heap.size, 0, none⟩ = some v0 ∧ (w.alloc (.cells #[v0, v1, v2, v3] t)).cell? ⟨w.heap.size, 1, none⟩ = some v1 ∧
    (w.alloc (.cells #[v0, v1, v2, v3] t)).cell? ⟨w.heap.size, 2, none⟩ = some v2 ∧ (w.alloc (.cells #[v0, v1, v2, v3] t)).cell? ⟨w.heap.size, 3, none⟩ = some v3 := by
  refine ⟨?_, ?_, ?_, ?_⟩ <;> rw [cell_of_row _ _ _ _ _ _ (heap_alloc_new w _)] <;> rfl

set_option maxHeartbeats 4000000 in
set_option maxRecDepth 20000 in
theorem fields_main (a0 : Option Addr) (cap0 : Nat) (fs : List Fld) (w : World) (f0 : Flds w (.slice a0 fs.length cap0) fs) (h20 : fs.length ≤ 20) (hs : ∀ f ∈ fs, f.s.size ≤ 500) :
    Calls Try.prog 3 #[.slice a0 fs.length cap0] w fun e w' => e = .returned (.bool true) ∧ Below w.heap.size w w' := by
  have H : Hid (Flds w (.slice a0 fs.length cap0) fs) := f0
  have HS : Hid (∀ f ∈ fs, f.s.size ≤ 500) := hs
  have HOK : Hid (∀ f ∈ fs, f.Ok) := f0.2.1
  have HSM : Hid (smallB fs = true) := smallB_iff.2 ⟨h20, hs⟩
  have HLE : Hid ((encs fs).length ≤ 100000) := by
    have := encs_len fs f0.2.1 hs
    unfold Hid; omega
  clear f0 hs
  go_enter Try.func3, Try.ntmps3
  go_wp2_with fail
  refine (awake4 _).mono ?_
  rintro e w1 ⟨rfl, hb1⟩
  have HB1 : Hid (Below w.heap.size w w1) := hb1
  have hs1 : w.heap.size ≤ w1.heap.size := hb1.size
  clear hb1
  go_wp2_with fail
  refine (small_any _ fs _ (H.out.kept HB1.out)).mono ?_
  rintro e w2 ⟨rfl, rfl⟩
  rw [HSM.out]
  go_wp2_with fail
  refine (puts_any _ fs _ (H.out.kept HB1.out) h20 HS.out).mono ?_
  rintro e w3 ⟨v3, rfl, ho3, hb3⟩
  have HB3 : Hid (Below w.heap.size w w3) := HB1.out.trans (hb3.mono hs1)
  have hs3 : w.heap.size ≤ w3.heap.size := HB3.out.size
  have HO3 : Hid (Octs w3 v3 (encs fs)) := ho3
  obtain ⟨a3, cap3, rfl⟩ := ho3.shape
  clear hb3 ho3
  have HCV : Hid (∀ w', Below w3.heap.size w3 w' → (convert 25 9 (.slice a3 (encs fs).length cap3)).run Try.prog w' = .ok (.string (strN (encs fs))) w') := fun w' hb =>
    conv_octs (HO3.out.kept hb) _ _ _ Try.underlying25 Try.underlying5 Try.underlying9
  have HRW : Hid (∀ w', Below w3.heap.size w3 w' → Calls Try.prog 10 #[.slice a0 fs.length cap0] w' fun e w4 => e = .returned (.string (strN (encs fs))) ∧ Below w'.heap.size w' w4) := fun w' hb =>
    refWrite_any _ fs w' (H.out.kept (HB3.out.trans (hb.mono hs3))) h20 HS.out
  generalize hE : encs fs = E at HO3 HCV HRW HLE
  have HE : Hid (encs fs = E) := hE
  clear hE
  go_wp2
  go_region_held3 (fun w' => (convert 25 9 (.slice a3 E.length cap3)).run Try.prog w' = .ok (.string (strN E)) w') (first | exact HCV.out _ (Below.refl _ _).drew | exact HCV.out _ HB4.out) (first
    | (go_at_call 10; refine (HRW.out _ ?_).mono ?_; (· exact (Below.refl _ _).drew); rintro e w4 ⟨rfl, hb4⟩; have HB4 : Hid (Below w3.heap.size w3 w4) := below_undrew hb4; clear hb4))
  all_goals
    have HB4' : Hid (Below w.heap.size w w4) := HB3.out.trans (HB4.out.mono hs3)
    have HO4 : Hid (Octs w4 (.slice a3 E.length cap3) E) := HO3.out.kept HB4.out
    clear HB4 HCV HRW HO3
    go_wp2_with fail
    refine (read_octs _ _ _ HO4.out HLE.out).mono ?_
    rintro e w5 ⟨p, rfl, hr5, hb5, hp5⟩
    have HB5 : Hid (Below w.heap.size w w5) := HB4'.out.trans (hb5.mono HB4'.out.size)
    have HR5 : Hid (IsR w5 p ⟨encs (fs.drop 0), false⟩) := by unfold Hid; rw [List.drop_zero, HE.out]; exact hr5
    have hp : w.heap.size ≤ p := Nat.le_trans HB4'.out.size hp5
    clear hr5 hb5 hp5 HO4
    go_wp2_with fail
    go_loopw [5] (fun i wr => ∃ k : Nat, k ≤ fs.length ∧ i = .int .i64 k ∧ Hid (IsR wr p ⟨encs (fs.drop k), false⟩) ∧ Hid (Below w.heap.size w wr)) (fun i _ => fs.length - (intOf i).toNat)
    case atStart => exact ⟨0, Nat.zero_le _, rfl, HR5, HB5⟩
    case round =>
      obtain ⟨k, hk, rfl, HR, HB⟩ := hrel
      have hsr := HB.out.size
      have hpl := HR.out.lt
      by_cases hlt : k < fs.length
      · obtain ⟨b, off, rfl, hbl, hc⟩ := H.out.addr (by omega)
        obtain ⟨f, hf⟩ : ∃ f, fs[k]? = some f := ⟨_, List.getElem?_eq_getElem hlt⟩
        have HEE : Hid (encs (fs.drop k) = enc f ++ encs (fs.drop (k + 1))) := encs_drop fs k f hf
        have hmem : f ∈ fs := List.mem_of_getElem? hf
        have hfs := HS.out f hmem
        have hn1 := (HOK.out f hmem).n1
        have hn2 := (HOK.out f hmem).n2
        obtain ⟨c0, c1, c2, c3⟩ := hc k f hf
        have d0 : wr.cell? ⟨b, off + k * 4, none⟩ = some (.int .i64 f.kind) := (HB.out.cell (p := ⟨b, off + k * 4, none⟩) hbl).trans c0
        have d1 : wr.cell? ⟨b, off + k * 4 + 1, none⟩ = some (.int .i64 f.n) := (HB.out.cell (p := ⟨b, off + k * 4 + 1, none⟩) hbl).trans c1
        have d2 : wr.cell? ⟨b, off + k * 4 + 2, none⟩ = some (.int .i64 f.size) := (HB.out.cell (p := ⟨b, off + k * 4 + 2, none⟩) hbl).trans c2
        have d3 : wr.cell? ⟨b, off + k * 4 + 3, none⟩ = some (.string f.s) := (HB.out.cell (p := ⟨b, off + k * 4 + 3, none⟩) hbl).trans c3
        have HEF : Hid (enc f = if f.kind = 0 then octZ f.n (cl f.size 8) else if f.kind = 1 then varN (zigI f.n).toNat else octZ f.s.size 2 ++ octsOf f.s) := rfl
        generalize enc f = F at HEE HEF
        clear hc hf hmem c0 c1 c2 c3
        generalize f.kind = fk at *
        generalize f.n = fn at *
        generalize f.size = fz at *
        generalize f.s = fss at *
        have HD : Hid (∀ w', Only p (wr.alloc (.cells #[.int .i64 fk, .int .i64 fn, .int .i64 fz, .string fss] 31)) w' → w'.cell? ⟨wr.heap.size, 1, none⟩ = some (.int .i64 fn) ∧ w'.cell? ⟨wr.heap.size, 2, none⟩ = some (.int .i64 fz) ∧ w'.cell? ⟨wr.heap.size, 3, none⟩ = some (.string fss)) := fun w' ho => by
          have h4 := four_cells wr 31 (.int .i64 fk) (.int .i64 fn) (.int .i64 fz) (.string fss)
          refine ⟨(ho.cell (q := ⟨wr.heap.size, 1, none⟩) (by simp) (by simp; omega)).trans h4.2.1, (ho.cell (q := ⟨wr.heap.size, 2, none⟩) (by simp) (by simp; omega)).trans h4.2.2.1, (ho.cell (q := ⟨wr.heap.size, 3, none⟩) (by simp) (by simp; omega)).trans h4.2.2.2⟩
        have HR0 : Hid (IsR (wr.alloc (.cells #[.int .i64 fk, .int .i64 fn, .int .i64 fz, .string fss] 31)) p ⟨encs (fs.drop k), false⟩) := HR.out.alloc _
        have HO0 : Hid (Only p wr (wr.alloc (.cells #[.int .i64 fk, .int .i64 fn, .int .i64 fz, .string fss] 31))) := (Only.refl _ _).alloc _
        by_cases k0 : fk = 0
        · have HZ : Hid (getO ((RS.mk (encs (fs.drop k)) false).oct (cl fz 8)) = lowI fn (8 * cl fz 8) ∧ (RS.mk (encs (fs.drop k)) false).off (cl fz 8) = ⟨encs (fs.drop (k + 1)), false⟩) := by
            unfold Hid; rw [HEE.out, HEF.out, if_pos k0]; exact back_num fn fz _
          have HX : Hid (∀ x : Int, x = 8 * (cl fz 8 : Int) → lowI fn (cl x 64) = lowI fn (8 * cl fz 8)) := fun x hx => by rw [cl_bits fz x hx]
          have HCL : Hid ((cl fz 8 : Int) = max 0 (min fz 8)) := cl_cast fz 8
          subst k0
          generalize lowI fn (8 * cl fz 8) = lv at HZ HX
          have hcase : 8 < fz ∨ (¬ 8 < fz ∧ 0 < fz) ∨ (¬ 8 < fz ∧ ¬ 0 < fz) := by omega
          rcases hcase with u1 | ⟨u1, u2⟩ | ⟨u1, u2⟩
          · have HXc : Hid (lowI fn (cl (IntKind.i64.wrap 64) 64) = lv) := HX.out _ (by rw [IntKind.wrap_i64]; have := HCL.out; omega)
            go_wp2
            go_region_held3 (fun w' => w'.cell? ⟨wr.heap.size, 1, none⟩ = some (.int .i64 fn) ∧ w'.cell? ⟨wr.heap.size, 2, none⟩ = some (.int .i64 fz))
              (first | exact ⟨(HD.out _ (Only.refl _ _).drew).1, (HD.out _ (Only.refl _ _).drew).2.1⟩ | exact ⟨(HD.out _ HOE.out).1, (HD.out _ HOE.out).2.1⟩ | exact ⟨(HD.out _ HON.out).1, (HD.out _ HON.out).2.1⟩ | exact ⟨(HD.out _ HOL.out).1, (HD.out _ HOL.out).2.1⟩) (first
              | (go_at_call 12; refine (rnum_any HRL.out fz).mono ?_; rintro e wE ⟨rfl, hrN, hkN⟩; rw [HZ.out.1]; rw [HZ.out.2] at hrN
                 have HRE : Hid (IsR wE p ⟨encs (fs.drop (k + 1)), false⟩) := hrN
                 have HOE : Hid (Only p (wr.alloc (.cells #[.int .i64 0, .int .i64 fn, .int .i64 fz, .string fss] 31)) wE) := HOL.out.trans hkN
                 clear hrN hkN)
              | (go_at_call 12; refine (rnum_any HR0.out.drew fz).mono ?_; rintro e wN ⟨rfl, hrN, hkN⟩; rw [HZ.out.1]; rw [HZ.out.2] at hrN
                 have HRN : Hid (IsR wN p ⟨encs (fs.drop (k + 1)), false⟩) := hrN
                 have HON : Hid (Only p (wr.alloc (.cells #[.int .i64 0, .int .i64 fn, .int .i64 fz, .string fss] 31)) wN) := Only.undrew hkN
                 clear hrN hkN)
              | (go_at_call 13; refine (refLow_any fn _ wN).mono ?_; rintro e wE ⟨rfl, hbL⟩; rw [HXc.out]
                 have HRE : Hid (IsR wE p ⟨encs (fs.drop (k + 1)), false⟩) := HRN.out.same hbL
                 have HOE : Hid (Only p (wr.alloc (.cells #[.int .i64 0, .int .i64 fn, .int .i64 fz, .string fss] 31)) wE) := HON.out.trans (Only.ofBelow hbL)
                 clear hbL)
              | (go_at_call 13; refine (refLow_any fn _ _).mono ?_; rintro e wL ⟨rfl, hbL⟩; rw [HXc.out]
                 have HRL : Hid (IsR wL p ⟨encs (fs.drop k), false⟩) := HR0.out.drew.same hbL
                 have HOL : Hid (Only p (wr.alloc (.cells #[.int .i64 0, .int .i64 fn, .int .i64 fz, .string fss] 31)) wL) := Only.undrew (Only.ofBelow hbL)
                 clear hbL))
            all_goals
              have HB6 : Hid (Below w.heap.size w wE) := HB.out.trans ((HO0.out.trans HOE.out).below hp hsr)
              go_wp2
              go_roundw
              case rel => exact ⟨k + 1, by omega, by go_num, HRE, HB6⟩
              case measure => simp [intOf]; omega
          · have HXc : Hid (lowI fn (cl (IntKind.i64.wrap (8 * fz)) 64) = lv) := HX.out _ (by rw [IntKind.wrap_i64]; have := HCL.out; omega)
            have t1 : (if 8 < fz then (8 : Int) else fz) = fz := if_neg u1
            have t2 : (if 0 < fz then fz else (0 : Int)) = fz := if_pos u2
            go_wp2
            go_region_held3 (fun w' => w'.cell? ⟨wr.heap.size, 1, none⟩ = some (.int .i64 fn) ∧ w'.cell? ⟨wr.heap.size, 2, none⟩ = some (.int .i64 fz))
              (first | exact ⟨(HD.out _ (Only.refl _ _).drew).1, (HD.out _ (Only.refl _ _).drew).2.1⟩ | exact ⟨(HD.out _ HOE.out).1, (HD.out _ HOE.out).2.1⟩ | exact ⟨(HD.out _ HON.out).1, (HD.out _ HON.out).2.1⟩ | exact ⟨(HD.out _ HOL.out).1, (HD.out _ HOL.out).2.1⟩) (first
              | (go_at_call 12; refine (rnum_any HRL.out fz).mono ?_; rintro e wE ⟨rfl, hrN, hkN⟩; rw [HZ.out.1]; rw [HZ.out.2] at hrN
                 have HRE : Hid (IsR wE p ⟨encs (fs.drop (k + 1)), false⟩) := hrN
                 have HOE : Hid (Only p (wr.alloc (.cells #[.int .i64 0, .int .i64 fn, .int .i64 fz, .string fss] 31)) wE) := HOL.out.trans hkN
                 clear hrN hkN)
              | (go_at_call 12; refine (rnum_any HR0.out.drew fz).mono ?_; rintro e wN ⟨rfl, hrN, hkN⟩; rw [HZ.out.1]; rw [HZ.out.2] at hrN
                 have HRN : Hid (IsR wN p ⟨encs (fs.drop (k + 1)), false⟩) := hrN
                 have HON : Hid (Only p (wr.alloc (.cells #[.int .i64 0, .int .i64 fn, .int .i64 fz, .string fss] 31)) wN) := Only.undrew hkN
                 clear hrN hkN)
              | (go_at_call 13; refine (refLow_any fn _ wN).mono ?_; rintro e wE ⟨rfl, hbL⟩; rw [HXc.out]
                 have HRE : Hid (IsR wE p ⟨encs (fs.drop (k + 1)), false⟩) := HRN.out.same hbL
                 have HOE : Hid (Only p (wr.alloc (.cells #[.int .i64 0, .int .i64 fn, .int .i64 fz, .string fss] 31)) wE) := HON.out.trans (Only.ofBelow hbL)
                 clear hbL)
              | (go_at_call 13; refine (refLow_any fn _ _).mono ?_; rintro e wL ⟨rfl, hbL⟩; rw [HXc.out]
                 have HRL : Hid (IsR wL p ⟨encs (fs.drop k), false⟩) := HR0.out.drew.same hbL
                 have HOL : Hid (Only p (wr.alloc (.cells #[.int .i64 0, .int .i64 fn, .int .i64 fz, .string fss] 31)) wL) := Only.undrew (Only.ofBelow hbL)
                 clear hbL))
            all_goals
              have HB6 : Hid (Below w.heap.size w wE) := HB.out.trans ((HO0.out.trans HOE.out).below hp hsr)
              go_wp2
              go_roundw
              case rel => exact ⟨k + 1, by omega, by go_num, HRE, HB6⟩
              case measure => simp [intOf]; omega
          · have HXc : Hid (lowI fn (cl (IntKind.i64.wrap 0) 64) = lv) := HX.out _ (by rw [IntKind.wrap_i64]; have := HCL.out; omega)
            have t1 : (if 8 < fz then (8 : Int) else fz) = fz := if_neg u1
            have t2 : (if 0 < fz then fz else (0 : Int)) = 0 := if_neg u2
            go_wp2
            go_region_held3 (fun w' => w'.cell? ⟨wr.heap.size, 1, none⟩ = some (.int .i64 fn) ∧ w'.cell? ⟨wr.heap.size, 2, none⟩ = some (.int .i64 fz))
              (first | exact ⟨(HD.out _ (Only.refl _ _).drew).1, (HD.out _ (Only.refl _ _).drew).2.1⟩ | exact ⟨(HD.out _ HOE.out).1, (HD.out _ HOE.out).2.1⟩ | exact ⟨(HD.out _ HON.out).1, (HD.out _ HON.out).2.1⟩ | exact ⟨(HD.out _ HOL.out).1, (HD.out _ HOL.out).2.1⟩) (first
              | (go_at_call 12; refine (rnum_any HRL.out fz).mono ?_; rintro e wE ⟨rfl, hrN, hkN⟩; rw [HZ.out.1]; rw [HZ.out.2] at hrN
                 have HRE : Hid (IsR wE p ⟨encs (fs.drop (k + 1)), false⟩) := hrN
                 have HOE : Hid (Only p (wr.alloc (.cells #[.int .i64 0, .int .i64 fn, .int .i64 fz, .string fss] 31)) wE) := HOL.out.trans hkN
                 clear hrN hkN)
              | (go_at_call 12; refine (rnum_any HR0.out.drew fz).mono ?_; rintro e wN ⟨rfl, hrN, hkN⟩; rw [HZ.out.1]; rw [HZ.out.2] at hrN
                 have HRN : Hid (IsR wN p ⟨encs (fs.drop (k + 1)), false⟩) := hrN
                 have HON : Hid (Only p (wr.alloc (.cells #[.int .i64 0, .int .i64 fn, .int .i64 fz, .string fss] 31)) wN) := Only.undrew hkN
                 clear hrN hkN)
              | (go_at_call 13; refine (refLow_any fn _ wN).mono ?_; rintro e wE ⟨rfl, hbL⟩; rw [HXc.out]
                 have HRE : Hid (IsR wE p ⟨encs (fs.drop (k + 1)), false⟩) := HRN.out.same hbL
                 have HOE : Hid (Only p (wr.alloc (.cells #[.int .i64 0, .int .i64 fn, .int .i64 fz, .string fss] 31)) wE) := HON.out.trans (Only.ofBelow hbL)
                 clear hbL)
              | (go_at_call 13; refine (refLow_any fn _ _).mono ?_; rintro e wL ⟨rfl, hbL⟩; rw [HXc.out]
                 have HRL : Hid (IsR wL p ⟨encs (fs.drop k), false⟩) := HR0.out.drew.same hbL
                 have HOL : Hid (Only p (wr.alloc (.cells #[.int .i64 0, .int .i64 fn, .int .i64 fz, .string fss] 31)) wL) := Only.undrew (Only.ofBelow hbL)
                 clear hbL))
            all_goals
              have HB6 : Hid (Below w.heap.size w wE) := HB.out.trans ((HO0.out.trans HOE.out).below hp hsr)
              go_wp2
              go_roundw
              case rel => exact ⟨k + 1, by omega, by go_num, HRE, HB6⟩
              case measure => simp [intOf]; omega
        · by_cases k1 : fk = 1
          · have HZ : Hid ((RS.mk (encs (fs.drop k)) false).zig = fn ∧ (RS.mk (encs (fs.drop k)) false).offZig = ⟨encs (fs.drop (k + 1)), false⟩) := by
              unfold Hid; rw [HEE.out, HEF.out, if_neg k0, if_pos k1]; exact back_zig fn hn1 hn2 _
            subst k1
            go_wp2
            go_region_held3 (fun w' => w'.cell? ⟨wr.heap.size, 1, none⟩ = some (.int .i64 fn)) (first | exact (HD.out _ (Only.refl _ _).drew).1 | exact (HD.out _ (Only.undrew hk6)).1) (first
              | (go_at_call 14; refine (rzig_any HR0.out.drew).mono ?_; rintro e w6 ⟨rfl, hr6, hk6⟩; rw [HZ.out.1]; rw [HZ.out.2] at hr6))
            all_goals
              have HR6 : Hid (IsR w6 p ⟨encs (fs.drop (k + 1)), false⟩) := hr6
              have HB6 : Hid (Below w.heap.size w w6) := HB.out.trans ((HO0.out.trans (Only.undrew hk6)).below hp hsr)
              clear hr6 hk6
              go_wp2
              go_roundw
              case rel => exact ⟨k + 1, by omega, by go_num, HR6, HB6⟩
              case measure => simp [intOf]; omega
          · have HZ : Hid (strN (RS.mk (encs (fs.drop k)) false).text = fss ∧ (RS.mk (encs (fs.drop k)) false).offText = ⟨encs (fs.drop (k + 1)), false⟩) := by
              unfold Hid; rw [HEE.out, HEF.out, if_neg k0, if_neg k1]; exact back_text fss (by omega) _
            go_wp2
            go_region_held3 (fun w' => w'.cell? ⟨wr.heap.size, 3, none⟩ = some (.string fss)) (first | exact (HD.out _ (Only.refl _ _).drew).2.2 | exact (HD.out _ (Only.undrew hk6)).2.2) (first
              | (go_at_call 15; refine (rtext_any HR0.out.drew).mono ?_; rintro e w6 ⟨rfl, hr6, hk6⟩; rw [HZ.out.1]; rw [HZ.out.2] at hr6))
            all_goals
              have HR6 : Hid (IsR w6 p ⟨encs (fs.drop (k + 1)), false⟩) := hr6
              have HB6 : Hid (Below w.heap.size w w6) := HB.out.trans ((HO0.out.trans (Only.undrew hk6)).below hp hsr)
              clear hr6 hk6
              go_wp2
              go_roundw
              case rel => exact ⟨k + 1, by omega, by go_num, HR6, HB6⟩
              case measure => simp [intOf]; omega
      · obtain rfl : k = fs.length := by omega
        have HD : Hid (IsR wr p ⟨[], false⟩) := by
          have := HR.out
          rw [List.drop_length] at this
          exact this
        go_wp2_with fail
        refine (done_any HD.out).mono ?_
        rintro e w6 ⟨rfl, rfl⟩
        rw [show (RS.mk [] false).done = true from rfl]
        go_wp2_with fail
        refine (left_any HD.out).mono ?_
        rintro e w7 ⟨rfl, rfl⟩
        rw [show (RS.mk [] false).zs.length = 0 from rfl]
        go_wp2
        go_ret
        exact ⟨rfl, HB.out⟩

set_option maxHeartbeats 400000 in
set_option maxRecDepth 20000 in
theorem packFields_walk (a0 : Option Addr) (len0 cap0 : Nat) (c0 : List Fld) (w : World) (f0 : Flds w (.slice a0 len0 cap0) c0) :
    Calls Try.prog 3 #[.slice a0 len0 cap0] w fun e w' => e = .returned (.bool true) ∧ Below w.heap.size w w' := by
  obtain ⟨a, cap, e⟩ := f0.shape
  simp only [Value.slice.injEq] at e
  obtain ⟨rfl, rfl, rfl⟩ := e
  cases hs : smallB c0 with
  | true => exact fields_main a0 cap0 c0 w f0 (smallB_iff.1 hs).1 (smallB_iff.1 hs).2
  | false =>
    have H : Hid (Flds w (.slice a0 c0.length cap0) c0) := f0
    have HS : Hid (smallB c0 = false) := hs
    clear f0 hs
    go_enter Try.func3, Try.ntmps3
    go_wp2_with fail
    refine (awake4 _).mono ?_
    rintro e w1 ⟨rfl, hb1⟩
    have HB1 : Hid (Below w.heap.size w w1) := hb1
    clear hb1
    go_wp2_with fail
    refine (small_any _ c0 _ (H.out.kept HB1.out)).mono ?_
    rintro e w2 ⟨rfl, rfl⟩
    rw [HS.out]
    go_wp2_with fail
    refine (awake4 _).mono ?_
    rintro e w3 ⟨rfl, hb3⟩
    have HB3 : Hid (Below w.heap.size w w3) := HB1.out.trans (hb3.mono HB1.out.size)
    clear hb3
    go_wp2
    go_ret
    exact ⟨rfl, HB3.out⟩
end Go.Proofs.Ytclondljjfljpaa
