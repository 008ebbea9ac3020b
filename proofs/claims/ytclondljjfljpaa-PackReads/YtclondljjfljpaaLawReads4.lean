/- The walk of the law 'PackReads' for every input. -/
import Derived.Test.YtclondljjfljpaaWalkAwake4
import Derived.Test.YtclondljjfljpaaWalkRefZig4
import Derived.Test.YtclondljjfljpaaLawFields4
import Derived.BigQuiet
namespace Go.Proofs.Ytclondljjfljpaa
open Go.RowKit
set_option linter.unusedVariables false

theorem below_drewN (w : World) (n : Nat) : Below w.heap.size w (w.drewN n) := ⟨rfl, rfl, rfl, Nat.le_refl _, fun _ _ => rfl⟩

set_option maxHeartbeats 8000000 in
set_option maxRecDepth 20000 in
theorem reads_main (a0 : Option Addr) (n0 cap0 : Nat) (zs : List Nat) (a1 : Option Addr) (cap1 : Nat) (fs : List Fld) (w : World) (f0 : Octs w (.slice a0 n0 cap0) zs) (f1 : Flds w (.slice a1 fs.length cap1) fs) (hn0 : n0 ≤ 500) (h20 : fs.length ≤ 20) (hs : ∀ f ∈ fs, f.s.size ≤ 500) :
    Calls Try.prog 4 #[.slice a0 n0 cap0, .slice a1 fs.length cap1] w fun e w' => e = .returned (.bool true) ∧ Below w.heap.size w w' := by
  obtain ⟨i0, hi, hz0, hz1, hz2⟩ := info_parts Try.infoU8'
  have HO : Hid (Octs w (.slice a0 n0 cap0) zs) := f0
  have H : Hid (Flds w (.slice a1 fs.length cap1) fs) := f1
  have HOK : Hid (∀ f ∈ fs, f.Ok) := f1.2.1
  have HSM : Hid (smallB fs = true) := smallB_iff.2 ⟨h20, hs⟩
  have HZL : Hid (zs.length = n0) := f0.lenEq
  clear f0 f1 hs
  go_enter Try.func4, Try.ntmps4
  go_wp2_with fail
  refine (awake4 _).mono ?_
  rintro e w1 ⟨rfl, hb1⟩
  have HB1 : Hid (Below w.heap.size w w1) := hb1
  have hs1 : w.heap.size ≤ w1.heap.size := hb1.size
  clear hb1
  go_wp2_with fail
  refine (small_any _ fs _ (H.out.kept HB1.out)).mono ?_
  rintro e w2 ⟨rfl, rfl⟩
  rw [HSM.out]
  go_wp2_with (at_builtin; refine wpList_append_octs _ rfl _ _ 25 rfl w.heap.size 5 i0 Try.underlying25 hi hz0 hz1 hz2 _ 0 [] rfl (World.ownsRow_made _ #[] 0 hs1 (by decide) rfl) _ zs rfl (HO.out.kept (HB1.out.alloc hs1 _)) ?d1 ?d2 ?_)
  case d1 => rw [HZL.out]; omega
  case d2 => first | omega | (simp; omega)
  intro vin w3 hown3 hg3
  have HB3 : Hid (Below w.heap.size w w3) := (HB1.out.alloc hs1 _).trans (below_grown (World.ownsRow_made _ #[] 0 hs1 (by decide) rfl) hg3 (by simp; omega))
  have HI3 : Hid (Octs w3 vin zs) := Octs.owned (by simpa using hown3) HO.out.small
  clear hown3 hg3
  go_wp2_with fail
  refine (read_octs _ _ _ HI3.out (by rw [HZL.out]; omega)).mono ?_
  rintro e w4 ⟨p, rfl, hr4, hb4, hp4⟩
  have HR4 : Hid (IsR w4 p ⟨zs, false⟩) := hr4
  have HB4 : Hid (Below w.heap.size w w4) := HB3.out.trans (hb4.mono HB3.out.size)
  have HI4 : Hid (Octs w4 vin zs) := HI3.out.kept hb4
  have hp : w.heap.size ≤ p := Nat.le_trans HB3.out.size hp4
  have hcv := conv_octs (P := Try.prog) (HO.out.kept HB4.out) 25 5 9 Try.underlying25 Try.underlying5 Try.underlying9
  clear hr4 hb4 hp4
  obtain ⟨q, hqe⟩ : ∃ q, w4.heap.size = q := ⟨_, rfl⟩
  have hq : w.heap.size ≤ q := by rw [← hqe]; exact HB4.out.size
  have hpq : p ≠ q := by have := HR4.out.lt; omega
  have HS5 : Hid (IsB (w4.alloc (.cells #[.string (strN zs), .bool false] 38)) q ⟨zs, false⟩) := by
    refine ⟨?_, HO.out.small, by rw [HZL.out]; omega, by simp⟩
    rw [← hqe]
    exact heap_alloc_new w4 _
  have HR5 : Hid (IsR (w4.alloc (.cells #[.string (strN zs), .bool false] 38)) p ⟨zs, false⟩) := HR4.out.alloc _
  have HI5 : Hid (Octs (w4.alloc (.cells #[.string (strN zs), .bool false] 38)) vin zs) := HI4.out.alloc _
  have HB5 : Hid (Below w.heap.size w (w4.alloc (.cells #[.string (strN zs), .bool false] 38))) := HB4.out.alloc HB4.out.size _
  have HV : Hid (∃ a c, vin = .slice a zs.length c) := HI4.out.shape
  obtain ⟨ai, ci, rfl⟩ := HV.out
  go_wp2_with fail
  go_loopw [8] (fun i wr => ∃ (k : Nat) (s : RS), k ≤ fs.length ∧ i = .int .i64 k ∧ Hid (IsR wr p s) ∧ Hid (IsB wr q s) ∧ Hid (Below w.heap.size w wr) ∧ Hid (Octs wr (.slice ai zs.length ci) zs)) (fun i _ => fs.length - (intOf i).toNat)
  case atStart => exact ⟨0, ⟨zs, false⟩, Nat.zero_le _, rfl, HR5, HS5, HB5, HI5⟩
  case round =>
    obtain ⟨k, s, hk, rfl, HR, HS, HB, HI⟩ := hrel
    have hsr0 := HB.out.size
    by_cases hlt : k < fs.length
    · obtain ⟨b, off, rfl, hbl, hc⟩ := H.out.addr (by omega)
      obtain ⟨f, hf⟩ : ∃ f, fs[k]? = some f := ⟨_, List.getElem?_eq_getElem hlt⟩
      obtain ⟨c0, c1, c2, c3⟩ := hc k f hf
      have d0 : wr.cell? ⟨b, off + k * 4, none⟩ = some (.int .i64 f.kind) := (HB.out.cell (p := ⟨b, off + k * 4, none⟩) hbl).trans c0
      have d1 : wr.cell? ⟨b, off + k * 4 + 1, none⟩ = some (.int .i64 f.n) := (HB.out.cell (p := ⟨b, off + k * 4 + 1, none⟩) hbl).trans c1
      have d2 : wr.cell? ⟨b, off + k * 4 + 2, none⟩ = some (.int .i64 f.size) := (HB.out.cell (p := ⟨b, off + k * 4 + 2, none⟩) hbl).trans c2
      have d3 : wr.cell? ⟨b, off + k * 4 + 3, none⟩ = some (.string f.s) := (HB.out.cell (p := ⟨b, off + k * 4 + 3, none⟩) hbl).trans c3
      clear hc hf c0 c1 c2 c3
      generalize f.kind = fk at *
      generalize f.n = fn at *
      generalize f.size = fz at *
      generalize f.s = fss at *
      have HR0 : Hid (IsR (wr.alloc (.cells #[.int .i64 fk, .int .i64 fn, .int .i64 fz, .string fss] 31)) p s) := HR.out.alloc _
      have HS0 : Hid (IsB (wr.alloc (.cells #[.int .i64 fk, .int .i64 fn, .int .i64 fz, .string fss] 31)) q s) := HS.out.below ((Below.refl _ _).alloc (Nat.le_refl _) _)
      have HI0 : Hid (Octs (wr.alloc (.cells #[.int .i64 fk, .int .i64 fn, .int .i64 fz, .string fss] 31)) (.slice ai zs.length ci) zs) := HI.out.alloc _
      have HB0 : Hid (Below w.heap.size w (wr.alloc (.cells #[.int .i64 fk, .int .i64 fn, .int .i64 fz, .string fss] 31))) := HB.out.alloc hsr0 _
      have hsr : w.heap.size ≤ (wr.alloc (.cells #[.int .i64 fk, .int .i64 fn, .int .i64 fz, .string fss] 31)).heap.size := HB0.out.size
      have hpl : p < wr.heap.size := HR.out.lt
      have hql : q < wr.heap.size := HS.out.lt
      have HD : Hid (∀ w', Kept (fun i => i < (wr.alloc (.cells #[.int .i64 fk, .int .i64 fn, .int .i64 fz, .string fss] 31)).heap.size ∧ i ≠ p ∧ i ≠ q) (wr.alloc (.cells #[.int .i64 fk, .int .i64 fn, .int .i64 fz, .string fss] 31)) w' → w'.cell? ⟨wr.heap.size, 2, none⟩ = some (.int .i64 fz)) := fun w' ho =>
        (ho.cell (p := ⟨wr.heap.size, 2, none⟩) ⟨by simp, by simp; omega, by simp; omega⟩).trans (four_cells wr 31 (.int .i64 fk) (.int .i64 fn) (.int .i64 fz) (.string fss)).2.2.1
      by_cases k0 : fk = 0
      · subst k0
        go_wp2
        go_region_held3 (fun w' => w'.cell? ⟨wr.heap.size, 2, none⟩ = some (.int .i64 fz)) (first | exact HD.out _ (Kept.refl _ _).drew | exact HD.out _ HKE.out | exact HD.out _ HKN.out | exact HD.out _ HKL.out) (first
          | (go_at_call 12; refine (rnum_any HRL.out fz).mono ?_; rintro e w6 ⟨rfl, hr6, hk6⟩
             have HR6 : Hid (IsR w6 p (s.off (cl fz 8))) := hr6
             have HS6 : Hid (IsB w6 q (s.off (cl fz 8))) := HSL.out.only hpq.symm hk6
             have HIN6 : Hid (Octs w6 (.slice ai zs.length ci) zs) := HIL.out.only HRL.out.noOct hk6
             have HB6 : Hid (Below w.heap.size w w6) := HBL.out.trans (hk6.below hp HBL.out.size)
             have HKE : Hid (Kept (fun i => i < (wr.alloc (.cells #[.int .i64 0, .int .i64 fn, .int .i64 fz, .string fss] 31)).heap.size ∧ i ≠ p ∧ i ≠ q) (wr.alloc (.cells #[.int .i64 0, .int .i64 fn, .int .i64 fz, .string fss] 31)) w6) := HKL.out.trans (Kept.mono hk6 fun i hi => ⟨Nat.lt_of_lt_of_le hi.1 HKL.out.size, hi.2.1⟩)
             clear hr6 hk6)
          | (go_at_call 12; refine (rnum_any HR0.out.drew fz).mono ?_; rintro e w5 ⟨rfl, hr6, hk6⟩
             have HRN : Hid (IsR w5 p (s.off (cl fz 8))) := hr6
             have HSN : Hid (IsB w5 q s) := HS0.out.only hpq.symm (Only.undrew hk6)
             have HIL : Hid (Octs w5 (.slice ai zs.length ci) zs) := HI0.out.only HR0.out.noOct (Only.undrew hk6)
             have HBL : Hid (Below w.heap.size w w5) := HB0.out.trans ((Only.undrew hk6).below hp hsr)
             have HKN : Hid (Kept (fun i => i < (wr.alloc (.cells #[.int .i64 0, .int .i64 fn, .int .i64 fz, .string fss] 31)).heap.size ∧ i ≠ p ∧ i ≠ q) (wr.alloc (.cells #[.int .i64 0, .int .i64 fn, .int .i64 fz, .string fss] 31)) w5) := Kept.mono (Only.undrew hk6) fun i hi => ⟨hi.1, hi.2.1⟩
             clear hr6 hk6)
          | (go_at_call 18; refine (refNum_any HSN.out fz).mono ?_; rintro e w6 ⟨rfl, hs6, hk6⟩
             have HS6 : Hid (IsB w6 q (s.off (cl fz 8))) := hs6
             have HR6 : Hid (IsR w6 p (s.off (cl fz 8))) := HRN.out.only HSN.out.noOct hpq hk6
             have HIN6 : Hid (Octs w6 (.slice ai zs.length ci) zs) := HIL.out.only HSN.out.noOct hk6
             have HB6 : Hid (Below w.heap.size w w6) := HBL.out.trans (hk6.below hq HBL.out.size)
             have HKE : Hid (Kept (fun i => i < (wr.alloc (.cells #[.int .i64 0, .int .i64 fn, .int .i64 fz, .string fss] 31)).heap.size ∧ i ≠ p ∧ i ≠ q) (wr.alloc (.cells #[.int .i64 0, .int .i64 fn, .int .i64 fz, .string fss] 31)) w6) := HKN.out.trans (Kept.mono hk6 fun i hi => ⟨Nat.lt_of_lt_of_le hi.1 HKN.out.size, hi.2.2⟩)
             clear hs6 hk6)
          | (go_at_call 18; refine (refNum_any HS0.out.drew fz).mono ?_; rintro e w5 ⟨rfl, hs6, hk6⟩
             have HSL : Hid (IsB w5 q (s.off (cl fz 8))) := hs6
             have HRL : Hid (IsR w5 p s) := HR0.out.only HS0.out.noOct hpq (Only.undrew hk6)
             have HIL : Hid (Octs w5 (.slice ai zs.length ci) zs) := HI0.out.only HS0.out.noOct (Only.undrew hk6)
             have HBL : Hid (Below w.heap.size w w5) := HB0.out.trans ((Only.undrew hk6).below hq hsr)
             have HKL : Hid (Kept (fun i => i < (wr.alloc (.cells #[.int .i64 0, .int .i64 fn, .int .i64 fz, .string fss] 31)).heap.size ∧ i ≠ p ∧ i ≠ q) (wr.alloc (.cells #[.int .i64 0, .int .i64 fn, .int .i64 fz, .string fss] 31)) w5) := Kept.mono (Only.undrew hk6) fun i hi => ⟨hi.1, hi.2.2⟩
             clear hs6 hk6))
        all_goals
          obtain ⟨s6, hs6⟩ : ∃ s6, (s.off (cl fz 8)) = s6 := ⟨_, rfl⟩
          rw [hs6] at HS6 HR6
          clear hs6 HKE HIL HBL
          go_wp2
          have e0 := HS6.out.1.cell.1
          have e1 := HS6.out.1.cell.2
          obtain ⟨z6, fl6⟩ := s6
          have hz6 : (fl6 = true ∧ z6 = []) ∨ (fl6 = false ∧ z6 = []) ∨ (fl6 = false ∧ z6 ≠ []) := by
            cases fl6
            · by_cases hz : z6 = []
              · exact .inr (.inl ⟨rfl, hz⟩)
              · exact .inr (.inr ⟨rfl, hz⟩)
            · exact .inl ⟨rfl, HS6.out.2.2.2 rfl⟩
          rcases hz6 with ⟨rfl, rfl⟩ | ⟨rfl, rfl⟩ | ⟨rfl, hz⟩
          · have HL6 : Hid ((RS.mk [] true).zs.length = 0) := rfl
            have HD6 : Hid ((RS.mk [] true).done = false) := rfl
            rw [show strN (RS.mk [] true).zs = ByteArray.empty from rfl] at e0
            have HLq : Hid (∀ n, Calls Try.prog 17 #[.pointer (some ⟨p, 0, none⟩)] (w6.drewN n) fun e w' => e = .returned (.int .i64 0) ∧ w' = w6.drewN n) := fun n => by
              have := left_any (IsR.same HR6.out (below_drewN w6 n))
              rwa [HL6.out] at this
            have HDq : Hid (∀ n, Calls Try.prog 16 #[.pointer (some ⟨p, 0, none⟩)] (w6.drewN n) fun e w' => e = .returned (.bool false) ∧ w' = w6.drewN n) := fun n => by
              have := done_any (IsR.same HR6.out (below_drewN w6 n))
              rwa [HD6.out] at this
            go_quiet (first | (go_at_call 17; exact Calls.quiet_of_same (HLq.out _)) | (go_at_call 16; exact Calls.quiet_of_same (HDq.out _)))
            go_wp2
            go_roundw
            case rel => exact ⟨k + 1, ⟨[], true⟩, by omega, by go_num, IsR.same HR6.out (below_drewN w6 _), IsB.below HS6.out (below_drewN w6 _), HB6.out.trans ((below_drewN w6 _).mono HB6.out.size), HIN6.out.kept (below_drewN w6 _)⟩
            case measure => simp [intOf]; omega

          · have HL6 : Hid ((RS.mk [] false).zs.length = 0) := rfl
            have HD6 : Hid ((RS.mk [] false).done = true) := rfl
            rw [show strN (RS.mk [] false).zs = ByteArray.empty from rfl] at e0
            have HLq : Hid (∀ n, Calls Try.prog 17 #[.pointer (some ⟨p, 0, none⟩)] (w6.drewN n) fun e w' => e = .returned (.int .i64 0) ∧ w' = w6.drewN n) := fun n => by
              have := left_any (IsR.same HR6.out (below_drewN w6 n))
              rwa [HL6.out] at this
            have HDq : Hid (∀ n, Calls Try.prog 16 #[.pointer (some ⟨p, 0, none⟩)] (w6.drewN n) fun e w' => e = .returned (.bool true) ∧ w' = w6.drewN n) := fun n => by
              have := done_any (IsR.same HR6.out (below_drewN w6 n))
              rwa [HD6.out] at this
            go_quiet (first | (go_at_call 17; exact Calls.quiet_of_same (HLq.out _)) | (go_at_call 16; exact Calls.quiet_of_same (HDq.out _)))
            go_wp2
            go_roundw
            case rel => exact ⟨k + 1, ⟨[], false⟩, by omega, by go_num, IsR.same HR6.out (below_drewN w6 _), IsB.below HS6.out (below_drewN w6 _), HB6.out.trans ((below_drewN w6 _).mono HB6.out.size), HIN6.out.kept (below_drewN w6 _)⟩
            case measure => simp [intOf]; omega

          · have HL6 : Hid ((RS.mk z6 false).zs.length = (strN z6).size) := (strN_size z6).symm
            have HD6 : Hid ((RS.mk z6 false).done = false) := by
              unfold Hid RS.done
              have : ¬ z6.length = 0 := fun e => hz (List.eq_nil_of_length_eq_zero e)
              simp [this]
            have hne : ((strN z6).toList == ByteArray.empty.toList) = false := str_ne (fun e => hz (strN_inj HS6.out.2.1 (by simp) e))
            have hne2 : ((strN z6).toList == []) = false := by
              rw [show ByteArray.empty.toList = [] by rw [ByteArray.toList_eq]; rfl] at hne
              exact hne
            have hsz6 : (strN z6).size ≤ 9223372036854775807 := by
              have := HS6.out.2.2.1
              rw [strN_size]
              exact Nat.le_trans this (by decide)
            rw [show (RS.mk z6 false).zs = z6 from rfl] at e0
            generalize hS6 : strN z6 = S6 at e0 HL6 hne hne2 hsz6
            clear hS6
            have HLq : Hid (∀ n, Calls Try.prog 17 #[.pointer (some ⟨p, 0, none⟩)] (w6.drewN n) fun e w' => e = .returned (.int .i64 (S6.size : Nat)) ∧ w' = w6.drewN n) := fun n => by
              have := left_any (IsR.same HR6.out (below_drewN w6 n))
              rwa [HL6.out] at this
            have HDq : Hid (∀ n, Calls Try.prog 16 #[.pointer (some ⟨p, 0, none⟩)] (w6.drewN n) fun e w' => e = .returned (.bool false) ∧ w' = w6.drewN n) := fun n => by
              have := done_any (IsR.same HR6.out (below_drewN w6 n))
              rwa [HD6.out] at this
            go_quiet (first | (go_at_call 17; exact Calls.quiet_of_same (HLq.out _)) | (go_at_call 16; exact Calls.quiet_of_same (HDq.out _)))
            go_wp2
            go_roundw
            case rel => exact ⟨k + 1, ⟨z6, false⟩, by omega, by go_num, IsR.same HR6.out (below_drewN w6 _), IsB.below HS6.out (below_drewN w6 _), HB6.out.trans ((below_drewN w6 _).mono HB6.out.size), HIN6.out.kept (below_drewN w6 _)⟩
            case measure => simp [intOf]; omega
      · by_cases k1 : fk = 1
        · subst k1
          go_wp2_with fail
          refine (rzig_any HR0.out).mono ?_
          rintro e w4 ⟨rfl, hr4, hk4⟩
          have HR4 : Hid (IsR w4 p s.offZig) := hr4
          have HK4 : Hid (Only p (wr.alloc (.cells #[.int .i64 1, .int .i64 fn, .int .i64 fz, .string fss] 31)) w4) := hk4
          have HS4 : Hid (IsB w4 q s) := HS0.out.only hpq.symm hk4
          have HI4 : Hid (Octs w4 (.slice ai zs.length ci) zs) := HI0.out.only HR0.out.noOct hk4
          clear hr4 hk4
          go_wp2_with fail
          refine (refZigR_any HS4.out).mono ?_
          rintro e w6 ⟨rfl, hs6, hk6⟩
          have HS6 : Hid (IsB w6 q s.offZig) := hs6
          have HR6 : Hid (IsR w6 p s.offZig) := HR4.out.only HS4.out.noOct hpq hk6
          have HIN6 : Hid (Octs w6 (.slice ai zs.length ci) zs) := HI4.out.only HS4.out.noOct hk6
          have HB6 : Hid (Below w.heap.size w w6) := (HB0.out.trans (HK4.out.below hp hsr)).trans (hk6.below hq (Nat.le_trans hsr HK4.out.size))
          clear hs6 hk6
          obtain ⟨s6, hs6⟩ : ∃ s6, s.offZig = s6 := ⟨_, rfl⟩
          rw [hs6] at HS6 HR6
          clear hs6 HR4 HS4 HI4 HK4
          go_wp2

          have e0 := HS6.out.1.cell.1
          have e1 := HS6.out.1.cell.2
          obtain ⟨z6, fl6⟩ := s6
          have hz6 : (fl6 = true ∧ z6 = []) ∨ (fl6 = false ∧ z6 = []) ∨ (fl6 = false ∧ z6 ≠ []) := by
            cases fl6
            · by_cases hz : z6 = []
              · exact .inr (.inl ⟨rfl, hz⟩)
              · exact .inr (.inr ⟨rfl, hz⟩)
            · exact .inl ⟨rfl, HS6.out.2.2.2 rfl⟩
          rcases hz6 with ⟨rfl, rfl⟩ | ⟨rfl, rfl⟩ | ⟨rfl, hz⟩
          · have HL6 : Hid ((RS.mk [] true).zs.length = 0) := rfl
            have HD6 : Hid ((RS.mk [] true).done = false) := rfl
            rw [show strN (RS.mk [] true).zs = ByteArray.empty from rfl] at e0
            have HLq : Hid (∀ n, Calls Try.prog 17 #[.pointer (some ⟨p, 0, none⟩)] (w6.drewN n) fun e w' => e = .returned (.int .i64 0) ∧ w' = w6.drewN n) := fun n => by
              have := left_any (IsR.same HR6.out (below_drewN w6 n))
              rwa [HL6.out] at this
            have HDq : Hid (∀ n, Calls Try.prog 16 #[.pointer (some ⟨p, 0, none⟩)] (w6.drewN n) fun e w' => e = .returned (.bool false) ∧ w' = w6.drewN n) := fun n => by
              have := done_any (IsR.same HR6.out (below_drewN w6 n))
              rwa [HD6.out] at this
            go_quiet (first | (go_at_call 17; exact Calls.quiet_of_same (HLq.out _)) | (go_at_call 16; exact Calls.quiet_of_same (HDq.out _)))
            go_wp2
            go_roundw
            case rel => exact ⟨k + 1, ⟨[], true⟩, by omega, by go_num, IsR.same HR6.out (below_drewN w6 _), IsB.below HS6.out (below_drewN w6 _), HB6.out.trans ((below_drewN w6 _).mono HB6.out.size), HIN6.out.kept (below_drewN w6 _)⟩
            case measure => simp [intOf]; omega

          · have HL6 : Hid ((RS.mk [] false).zs.length = 0) := rfl
            have HD6 : Hid ((RS.mk [] false).done = true) := rfl
            rw [show strN (RS.mk [] false).zs = ByteArray.empty from rfl] at e0
            have HLq : Hid (∀ n, Calls Try.prog 17 #[.pointer (some ⟨p, 0, none⟩)] (w6.drewN n) fun e w' => e = .returned (.int .i64 0) ∧ w' = w6.drewN n) := fun n => by
              have := left_any (IsR.same HR6.out (below_drewN w6 n))
              rwa [HL6.out] at this
            have HDq : Hid (∀ n, Calls Try.prog 16 #[.pointer (some ⟨p, 0, none⟩)] (w6.drewN n) fun e w' => e = .returned (.bool true) ∧ w' = w6.drewN n) := fun n => by
              have := done_any (IsR.same HR6.out (below_drewN w6 n))
              rwa [HD6.out] at this
            go_quiet (first | (go_at_call 17; exact Calls.quiet_of_same (HLq.out _)) | (go_at_call 16; exact Calls.quiet_of_same (HDq.out _)))
            go_wp2
            go_roundw
            case rel => exact ⟨k + 1, ⟨[], false⟩, by omega, by go_num, IsR.same HR6.out (below_drewN w6 _), IsB.below HS6.out (below_drewN w6 _), HB6.out.trans ((below_drewN w6 _).mono HB6.out.size), HIN6.out.kept (below_drewN w6 _)⟩
            case measure => simp [intOf]; omega

          · have HL6 : Hid ((RS.mk z6 false).zs.length = (strN z6).size) := (strN_size z6).symm
            have HD6 : Hid ((RS.mk z6 false).done = false) := by
              unfold Hid RS.done
              have : ¬ z6.length = 0 := fun e => hz (List.eq_nil_of_length_eq_zero e)
              simp [this]
            have hne : ((strN z6).toList == ByteArray.empty.toList) = false := str_ne (fun e => hz (strN_inj HS6.out.2.1 (by simp) e))
            have hne2 : ((strN z6).toList == []) = false := by
              rw [show ByteArray.empty.toList = [] by rw [ByteArray.toList_eq]; rfl] at hne
              exact hne
            have hsz6 : (strN z6).size ≤ 9223372036854775807 := by
              have := HS6.out.2.2.1
              rw [strN_size]
              exact Nat.le_trans this (by decide)
            rw [show (RS.mk z6 false).zs = z6 from rfl] at e0
            generalize hS6 : strN z6 = S6 at e0 HL6 hne hne2 hsz6
            clear hS6
            have HLq : Hid (∀ n, Calls Try.prog 17 #[.pointer (some ⟨p, 0, none⟩)] (w6.drewN n) fun e w' => e = .returned (.int .i64 (S6.size : Nat)) ∧ w' = w6.drewN n) := fun n => by
              have := left_any (IsR.same HR6.out (below_drewN w6 n))
              rwa [HL6.out] at this
            have HDq : Hid (∀ n, Calls Try.prog 16 #[.pointer (some ⟨p, 0, none⟩)] (w6.drewN n) fun e w' => e = .returned (.bool false) ∧ w' = w6.drewN n) := fun n => by
              have := done_any (IsR.same HR6.out (below_drewN w6 n))
              rwa [HD6.out] at this
            go_quiet (first | (go_at_call 17; exact Calls.quiet_of_same (HLq.out _)) | (go_at_call 16; exact Calls.quiet_of_same (HDq.out _)))
            go_wp2
            go_roundw
            case rel => exact ⟨k + 1, ⟨z6, false⟩, by omega, by go_num, IsR.same HR6.out (below_drewN w6 _), IsB.below HS6.out (below_drewN w6 _), HB6.out.trans ((below_drewN w6 _).mono HB6.out.size), HIN6.out.kept (below_drewN w6 _)⟩
            case measure => simp [intOf]; omega
        · by_cases k2 : fk = 2
          · subst k2
            go_wp2_with fail
            refine (rtext_any HR0.out).mono ?_
            rintro e w4 ⟨rfl, hr4, hk4⟩
            have HR4 : Hid (IsR w4 p s.offText) := hr4
            have HK4 : Hid (Only p (wr.alloc (.cells #[.int .i64 2, .int .i64 fn, .int .i64 fz, .string fss] 31)) w4) := hk4
            have HS4 : Hid (IsB w4 q s) := HS0.out.only hpq.symm hk4
            have HI4 : Hid (Octs w4 (.slice ai zs.length ci) zs) := HI0.out.only HR0.out.noOct hk4
            clear hr4 hk4
            go_wp2_with fail
            refine (refText_any HS4.out).mono ?_
            rintro e w6 ⟨rfl, hs6, hk6⟩
            have HS6 : Hid (IsB w6 q s.offText) := hs6
            have HR6 : Hid (IsR w6 p s.offText) := HR4.out.only HS4.out.noOct hpq hk6
            have HIN6 : Hid (Octs w6 (.slice ai zs.length ci) zs) := HI4.out.only HS4.out.noOct hk6
            have HB6 : Hid (Below w.heap.size w w6) := (HB0.out.trans (HK4.out.below hp hsr)).trans (hk6.below hq (Nat.le_trans hsr HK4.out.size))
            clear hs6 hk6
            obtain ⟨s6, hs6⟩ : ∃ s6, s.offText = s6 := ⟨_, rfl⟩
            rw [hs6] at HS6 HR6
            clear hs6 HR4 HS4 HI4 HK4
            go_wp2

            have e0 := HS6.out.1.cell.1
            have e1 := HS6.out.1.cell.2
            obtain ⟨z6, fl6⟩ := s6
            have hz6 : (fl6 = true ∧ z6 = []) ∨ (fl6 = false ∧ z6 = []) ∨ (fl6 = false ∧ z6 ≠ []) := by
              cases fl6
              · by_cases hz : z6 = []
                · exact .inr (.inl ⟨rfl, hz⟩)
                · exact .inr (.inr ⟨rfl, hz⟩)
              · exact .inl ⟨rfl, HS6.out.2.2.2 rfl⟩
            rcases hz6 with ⟨rfl, rfl⟩ | ⟨rfl, rfl⟩ | ⟨rfl, hz⟩
            · have HL6 : Hid ((RS.mk [] true).zs.length = 0) := rfl
              have HD6 : Hid ((RS.mk [] true).done = false) := rfl
              rw [show strN (RS.mk [] true).zs = ByteArray.empty from rfl] at e0
              have HLq : Hid (∀ n, Calls Try.prog 17 #[.pointer (some ⟨p, 0, none⟩)] (w6.drewN n) fun e w' => e = .returned (.int .i64 0) ∧ w' = w6.drewN n) := fun n => by
                have := left_any (IsR.same HR6.out (below_drewN w6 n))
                rwa [HL6.out] at this
              have HDq : Hid (∀ n, Calls Try.prog 16 #[.pointer (some ⟨p, 0, none⟩)] (w6.drewN n) fun e w' => e = .returned (.bool false) ∧ w' = w6.drewN n) := fun n => by
                have := done_any (IsR.same HR6.out (below_drewN w6 n))
                rwa [HD6.out] at this
              go_quiet (first | (go_at_call 17; exact Calls.quiet_of_same (HLq.out _)) | (go_at_call 16; exact Calls.quiet_of_same (HDq.out _)))
              go_wp2
              go_roundw
              case rel => exact ⟨k + 1, ⟨[], true⟩, by omega, by go_num, IsR.same HR6.out (below_drewN w6 _), IsB.below HS6.out (below_drewN w6 _), HB6.out.trans ((below_drewN w6 _).mono HB6.out.size), HIN6.out.kept (below_drewN w6 _)⟩
              case measure => simp [intOf]; omega

            · have HL6 : Hid ((RS.mk [] false).zs.length = 0) := rfl
              have HD6 : Hid ((RS.mk [] false).done = true) := rfl
              rw [show strN (RS.mk [] false).zs = ByteArray.empty from rfl] at e0
              have HLq : Hid (∀ n, Calls Try.prog 17 #[.pointer (some ⟨p, 0, none⟩)] (w6.drewN n) fun e w' => e = .returned (.int .i64 0) ∧ w' = w6.drewN n) := fun n => by
                have := left_any (IsR.same HR6.out (below_drewN w6 n))
                rwa [HL6.out] at this
              have HDq : Hid (∀ n, Calls Try.prog 16 #[.pointer (some ⟨p, 0, none⟩)] (w6.drewN n) fun e w' => e = .returned (.bool true) ∧ w' = w6.drewN n) := fun n => by
                have := done_any (IsR.same HR6.out (below_drewN w6 n))
                rwa [HD6.out] at this
              go_quiet (first | (go_at_call 17; exact Calls.quiet_of_same (HLq.out _)) | (go_at_call 16; exact Calls.quiet_of_same (HDq.out _)))
              go_wp2
              go_roundw
              case rel => exact ⟨k + 1, ⟨[], false⟩, by omega, by go_num, IsR.same HR6.out (below_drewN w6 _), IsB.below HS6.out (below_drewN w6 _), HB6.out.trans ((below_drewN w6 _).mono HB6.out.size), HIN6.out.kept (below_drewN w6 _)⟩
              case measure => simp [intOf]; omega

            · have HL6 : Hid ((RS.mk z6 false).zs.length = (strN z6).size) := (strN_size z6).symm
              have HD6 : Hid ((RS.mk z6 false).done = false) := by
                unfold Hid RS.done
                have : ¬ z6.length = 0 := fun e => hz (List.eq_nil_of_length_eq_zero e)
                simp [this]
              have hne : ((strN z6).toList == ByteArray.empty.toList) = false := str_ne (fun e => hz (strN_inj HS6.out.2.1 (by simp) e))
              have hne2 : ((strN z6).toList == []) = false := by
                rw [show ByteArray.empty.toList = [] by rw [ByteArray.toList_eq]; rfl] at hne
                exact hne
              have hsz6 : (strN z6).size ≤ 9223372036854775807 := by
                have := HS6.out.2.2.1
                rw [strN_size]
                exact Nat.le_trans this (by decide)
              rw [show (RS.mk z6 false).zs = z6 from rfl] at e0
              generalize hS6 : strN z6 = S6 at e0 HL6 hne hne2 hsz6
              clear hS6
              have HLq : Hid (∀ n, Calls Try.prog 17 #[.pointer (some ⟨p, 0, none⟩)] (w6.drewN n) fun e w' => e = .returned (.int .i64 (S6.size : Nat)) ∧ w' = w6.drewN n) := fun n => by
                have := left_any (IsR.same HR6.out (below_drewN w6 n))
                rwa [HL6.out] at this
              have HDq : Hid (∀ n, Calls Try.prog 16 #[.pointer (some ⟨p, 0, none⟩)] (w6.drewN n) fun e w' => e = .returned (.bool false) ∧ w' = w6.drewN n) := fun n => by
                have := done_any (IsR.same HR6.out (below_drewN w6 n))
                rwa [HD6.out] at this
              go_quiet (first | (go_at_call 17; exact Calls.quiet_of_same (HLq.out _)) | (go_at_call 16; exact Calls.quiet_of_same (HDq.out _)))
              go_wp2
              go_roundw
              case rel => exact ⟨k + 1, ⟨z6, false⟩, by omega, by go_num, IsR.same HR6.out (below_drewN w6 _), IsB.below HS6.out (below_drewN w6 _), HB6.out.trans ((below_drewN w6 _).mono HB6.out.size), HIN6.out.kept (below_drewN w6 _)⟩
              case measure => simp [intOf]; omega
          ·
            go_wp2
            go_region_held3 (fun w' => w'.cell? ⟨wr.heap.size, 2, none⟩ = some (.int .i64 fz)) (first | exact HD.out _ (Kept.refl _ _).drew | exact HD.out _ HKE.out | exact HD.out _ HKN.out | exact HD.out _ HKL.out) (first
              | (go_at_call 21; refine (rsigned_any HRL.out fz).mono ?_; rintro e w6 ⟨rfl, hr6, hk6⟩
                 have HR6 : Hid (IsR w6 p (s.off (cl fz 8))) := hr6
                 have HS6 : Hid (IsB w6 q (s.off (cl fz 8))) := HSL.out.only hpq.symm hk6
                 have HIN6 : Hid (Octs w6 (.slice ai zs.length ci) zs) := HIL.out.only HRL.out.noOct hk6
                 have HB6 : Hid (Below w.heap.size w w6) := HBL.out.trans (hk6.below hp HBL.out.size)
                 have HKE : Hid (Kept (fun i => i < (wr.alloc (.cells #[.int .i64 fk, .int .i64 fn, .int .i64 fz, .string fss] 31)).heap.size ∧ i ≠ p ∧ i ≠ q) (wr.alloc (.cells #[.int .i64 fk, .int .i64 fn, .int .i64 fz, .string fss] 31)) w6) := HKL.out.trans (Kept.mono hk6 fun i hi => ⟨Nat.lt_of_lt_of_le hi.1 HKL.out.size, hi.2.1⟩)
                 clear hr6 hk6)
              | (go_at_call 21; refine (rsigned_any HR0.out.drew fz).mono ?_; rintro e w5 ⟨rfl, hr6, hk6⟩
                 have HRN : Hid (IsR w5 p (s.off (cl fz 8))) := hr6
                 have HSN : Hid (IsB w5 q s) := HS0.out.only hpq.symm (Only.undrew hk6)
                 have HIL : Hid (Octs w5 (.slice ai zs.length ci) zs) := HI0.out.only HR0.out.noOct (Only.undrew hk6)
                 have HBL : Hid (Below w.heap.size w w5) := HB0.out.trans ((Only.undrew hk6).below hp hsr)
                 have HKN : Hid (Kept (fun i => i < (wr.alloc (.cells #[.int .i64 fk, .int .i64 fn, .int .i64 fz, .string fss] 31)).heap.size ∧ i ≠ p ∧ i ≠ q) (wr.alloc (.cells #[.int .i64 fk, .int .i64 fn, .int .i64 fz, .string fss] 31)) w5) := Kept.mono (Only.undrew hk6) fun i hi => ⟨hi.1, hi.2.1⟩
                 clear hr6 hk6)
              | (go_at_call 22; refine (refSigned4_any HSN.out fz).mono ?_; rintro e w6 ⟨rfl, hs6, hk6⟩
                 have HS6 : Hid (IsB w6 q (s.off (cl fz 8))) := hs6
                 have HR6 : Hid (IsR w6 p (s.off (cl fz 8))) := HRN.out.only HSN.out.noOct hpq hk6
                 have HIN6 : Hid (Octs w6 (.slice ai zs.length ci) zs) := HIL.out.only HSN.out.noOct hk6
                 have HB6 : Hid (Below w.heap.size w w6) := HBL.out.trans (hk6.below hq HBL.out.size)
                 have HKE : Hid (Kept (fun i => i < (wr.alloc (.cells #[.int .i64 fk, .int .i64 fn, .int .i64 fz, .string fss] 31)).heap.size ∧ i ≠ p ∧ i ≠ q) (wr.alloc (.cells #[.int .i64 fk, .int .i64 fn, .int .i64 fz, .string fss] 31)) w6) := HKN.out.trans (Kept.mono hk6 fun i hi => ⟨Nat.lt_of_lt_of_le hi.1 HKN.out.size, hi.2.2⟩)
                 clear hs6 hk6)
              | (go_at_call 22; refine (refSigned4_any HS0.out.drew fz).mono ?_; rintro e w5 ⟨rfl, hs6, hk6⟩
                 have HSL : Hid (IsB w5 q (s.off (cl fz 8))) := hs6
                 have HRL : Hid (IsR w5 p s) := HR0.out.only HS0.out.noOct hpq (Only.undrew hk6)
                 have HIL : Hid (Octs w5 (.slice ai zs.length ci) zs) := HI0.out.only HS0.out.noOct (Only.undrew hk6)
                 have HBL : Hid (Below w.heap.size w w5) := HB0.out.trans ((Only.undrew hk6).below hq hsr)
                 have HKL : Hid (Kept (fun i => i < (wr.alloc (.cells #[.int .i64 fk, .int .i64 fn, .int .i64 fz, .string fss] 31)).heap.size ∧ i ≠ p ∧ i ≠ q) (wr.alloc (.cells #[.int .i64 fk, .int .i64 fn, .int .i64 fz, .string fss] 31)) w5) := Kept.mono (Only.undrew hk6) fun i hi => ⟨hi.1, hi.2.2⟩
                 clear hs6 hk6))
            all_goals
              obtain ⟨s6, hs6⟩ : ∃ s6, (s.off (cl fz 8)) = s6 := ⟨_, rfl⟩
              rw [hs6] at HS6 HR6
              clear hs6 HKE HIL HBL
              go_wp2
              have e0 := HS6.out.1.cell.1
              have e1 := HS6.out.1.cell.2
              obtain ⟨z6, fl6⟩ := s6
              have hz6 : (fl6 = true ∧ z6 = []) ∨ (fl6 = false ∧ z6 = []) ∨ (fl6 = false ∧ z6 ≠ []) := by
                cases fl6
                · by_cases hz : z6 = []
                  · exact .inr (.inl ⟨rfl, hz⟩)
                  · exact .inr (.inr ⟨rfl, hz⟩)
                · exact .inl ⟨rfl, HS6.out.2.2.2 rfl⟩
              rcases hz6 with ⟨rfl, rfl⟩ | ⟨rfl, rfl⟩ | ⟨rfl, hz⟩
              · have HL6 : Hid ((RS.mk [] true).zs.length = 0) := rfl
                have HD6 : Hid ((RS.mk [] true).done = false) := rfl
                rw [show strN (RS.mk [] true).zs = ByteArray.empty from rfl] at e0
                have HLq : Hid (∀ n, Calls Try.prog 17 #[.pointer (some ⟨p, 0, none⟩)] (w6.drewN n) fun e w' => e = .returned (.int .i64 0) ∧ w' = w6.drewN n) := fun n => by
                  have := left_any (IsR.same HR6.out (below_drewN w6 n))
                  rwa [HL6.out] at this
                have HDq : Hid (∀ n, Calls Try.prog 16 #[.pointer (some ⟨p, 0, none⟩)] (w6.drewN n) fun e w' => e = .returned (.bool false) ∧ w' = w6.drewN n) := fun n => by
                  have := done_any (IsR.same HR6.out (below_drewN w6 n))
                  rwa [HD6.out] at this
                go_quiet (first | (go_at_call 17; exact Calls.quiet_of_same (HLq.out _)) | (go_at_call 16; exact Calls.quiet_of_same (HDq.out _)))
                go_wp2
                go_roundw
                case rel => exact ⟨k + 1, ⟨[], true⟩, by omega, by go_num, IsR.same HR6.out (below_drewN w6 _), IsB.below HS6.out (below_drewN w6 _), HB6.out.trans ((below_drewN w6 _).mono HB6.out.size), HIN6.out.kept (below_drewN w6 _)⟩
                case measure => simp [intOf]; omega

              · have HL6 : Hid ((RS.mk [] false).zs.length = 0) := rfl
                have HD6 : Hid ((RS.mk [] false).done = true) := rfl
                rw [show strN (RS.mk [] false).zs = ByteArray.empty from rfl] at e0
                have HLq : Hid (∀ n, Calls Try.prog 17 #[.pointer (some ⟨p, 0, none⟩)] (w6.drewN n) fun e w' => e = .returned (.int .i64 0) ∧ w' = w6.drewN n) := fun n => by
                  have := left_any (IsR.same HR6.out (below_drewN w6 n))
                  rwa [HL6.out] at this
                have HDq : Hid (∀ n, Calls Try.prog 16 #[.pointer (some ⟨p, 0, none⟩)] (w6.drewN n) fun e w' => e = .returned (.bool true) ∧ w' = w6.drewN n) := fun n => by
                  have := done_any (IsR.same HR6.out (below_drewN w6 n))
                  rwa [HD6.out] at this
                go_quiet (first | (go_at_call 17; exact Calls.quiet_of_same (HLq.out _)) | (go_at_call 16; exact Calls.quiet_of_same (HDq.out _)))
                go_wp2
                go_roundw
                case rel => exact ⟨k + 1, ⟨[], false⟩, by omega, by go_num, IsR.same HR6.out (below_drewN w6 _), IsB.below HS6.out (below_drewN w6 _), HB6.out.trans ((below_drewN w6 _).mono HB6.out.size), HIN6.out.kept (below_drewN w6 _)⟩
                case measure => simp [intOf]; omega

              · have HL6 : Hid ((RS.mk z6 false).zs.length = (strN z6).size) := (strN_size z6).symm
                have HD6 : Hid ((RS.mk z6 false).done = false) := by
                  unfold Hid RS.done
                  have : ¬ z6.length = 0 := fun e => hz (List.eq_nil_of_length_eq_zero e)
                  simp [this]
                have hne : ((strN z6).toList == ByteArray.empty.toList) = false := str_ne (fun e => hz (strN_inj HS6.out.2.1 (by simp) e))
                have hne2 : ((strN z6).toList == []) = false := by
                  rw [show ByteArray.empty.toList = [] by rw [ByteArray.toList_eq]; rfl] at hne
                  exact hne
                have hsz6 : (strN z6).size ≤ 9223372036854775807 := by
                  have := HS6.out.2.2.1
                  rw [strN_size]
                  exact Nat.le_trans this (by decide)
                rw [show (RS.mk z6 false).zs = z6 from rfl] at e0
                generalize hS6 : strN z6 = S6 at e0 HL6 hne hne2 hsz6
                clear hS6
                have HLq : Hid (∀ n, Calls Try.prog 17 #[.pointer (some ⟨p, 0, none⟩)] (w6.drewN n) fun e w' => e = .returned (.int .i64 (S6.size : Nat)) ∧ w' = w6.drewN n) := fun n => by
                  have := left_any (IsR.same HR6.out (below_drewN w6 n))
                  rwa [HL6.out] at this
                have HDq : Hid (∀ n, Calls Try.prog 16 #[.pointer (some ⟨p, 0, none⟩)] (w6.drewN n) fun e w' => e = .returned (.bool false) ∧ w' = w6.drewN n) := fun n => by
                  have := done_any (IsR.same HR6.out (below_drewN w6 n))
                  rwa [HD6.out] at this
                go_quiet (first | (go_at_call 17; exact Calls.quiet_of_same (HLq.out _)) | (go_at_call 16; exact Calls.quiet_of_same (HDq.out _)))
                go_wp2
                go_roundw
                case rel => exact ⟨k + 1, ⟨z6, false⟩, by omega, by go_num, IsR.same HR6.out (below_drewN w6 _), IsB.below HS6.out (below_drewN w6 _), HB6.out.trans ((below_drewN w6 _).mono HB6.out.size), HIN6.out.kept (below_drewN w6 _)⟩
                case measure => simp [intOf]; omega
    · obtain rfl : k = fs.length := by omega
      have g1 := conv_octs (P := Try.prog) HI.out 25 5 9 Try.underlying25 Try.underlying5 Try.underlying9
      have g2 := conv_octs (P := Try.prog) (HO.out.kept HB.out) 25 5 9 Try.underlying25 Try.underlying5 Try.underlying9
      go_wp2
      go_ret
      exact ⟨rfl, HB.out⟩

set_option maxHeartbeats 800000 in
set_option maxRecDepth 20000 in
theorem packReads_walk (a0 : Option Addr) (len0 cap0 : Nat) (z0 : List Int) (a1 : Option Addr) (len1 cap1 : Nat) (c1 : List Fld) (w : World) (f0 : IsRow .u8 w a0 len0 cap0 z0) (f1 : Flds w (.slice a1 len1 cap1) c1) :
    Calls Try.prog 4 #[.slice a0 len0 cap0, .slice a1 len1 cap1] w fun e w' => e = .returned (.bool true) ∧ Below w.heap.size w w' := by
  have h0 := Octs.ofRow f0
  have l0 := h0.lenLe
  clear f0
  obtain ⟨a, cap, e⟩ := f1.shape
  simp only [Value.slice.injEq] at e
  obtain ⟨rfl, rfl, rfl⟩ := e
  cases hs : smallB c1 with
  | true =>
    by_cases h5 : (500 : Int) < len0
    · have H : Hid (Flds w (.slice a1 c1.length cap1) c1) := f1
      have HS : Hid (smallB c1 = true) := hs
      clear f1 hs h0
      go_enter Try.func4, Try.ntmps4
      go_wp2_with fail
      refine (awake4 _).mono ?_
      rintro e w1 ⟨rfl, hb1⟩
      have HB1 : Hid (Below w.heap.size w w1) := hb1
      clear hb1
      go_wp2_with fail
      refine (small_any _ c1 _ (H.out.kept HB1.out)).mono ?_
      rintro e w2 ⟨rfl, rfl⟩
      rw [HS.out]
      go_wp2_with fail
      refine (awake4 _).mono ?_
      rintro e w3 ⟨rfl, hb3⟩
      have HB3 : Hid (Below w.heap.size w w3) := HB1.out.trans (hb3.mono HB1.out.size)
      clear hb3
      go_wp2
      go_ret
      exact ⟨rfl, HB3.out⟩
    · exact reads_main a0 len0 cap0 _ a1 cap1 c1 w h0 f1 (by omega) (smallB_iff.1 hs).1 (smallB_iff.1 hs).2
  | false =>
    have H : Hid (Flds w (.slice a1 c1.length cap1) c1) := f1
    have HS : Hid (smallB c1 = false) := hs
    clear f1 hs h0
    go_enter Try.func4, Try.ntmps4
    go_wp2_with fail
    refine (awake4 _).mono ?_
    rintro e w1 ⟨rfl, hb1⟩
    have HB1 : Hid (Below w.heap.size w w1) := hb1
    clear hb1
    go_wp2_with fail
    refine (small_any _ c1 _ (H.out.kept HB1.out)).mono ?_
    rintro e w2 ⟨rfl, rfl⟩
    rw [HS.out]
    go_wp2_with fail
    refine (awake4 _).mono ?_
    rintro e w3 ⟨rfl, hb3⟩
    have HB3 : Hid (Below w.heap.size w w3) := HB1.out.trans (hb3.mono HB1.out.size)
    clear hb3
    go_wp2
    go_ret
    exact ⟨rfl, HB3.out⟩
end Go.Proofs.Ytclondljjfljpaa
