/- The document's Right of lists of mapped pages. -/
import Derived.Test.YtfclhehpbniapaaMd11
import Derived.Test.YtfclhehpbniapaaWalkNum10
import Derived.Lib.QuietBelow
namespace Go.Proofs.Ytfclhehpbniapaa
open Go.RowKit
set_option linter.unusedVariables false

/-- A mapped page is right for so many slots. -/
def okM (n : Int) (m : Md) : Bool := isR m.k && decide (0 ≤ m.s ∧ m.s < n ∧ 1 ≤ m.g ∧ m.g ≤ 281474976710655)
/-- It stands in order behind the one ahead. -/
def aheadM (l : List Md) (j : Nat) (m : Md) : Bool := match j with
  | 0 => true
  | i + 1 => match l[i]? with
    | some q => ltK q.k m.k
    | none => true
def freshM (pre : List Md) (m : Md) : Bool := pre.all fun q => decide (q.s ≠ m.s)
def stepM (n : Int) (l : List Md) (j : Nat) : Bool := match l[j]? with
  | some m => okM n m && aheadM l j m && freshM (l.take j) m
  | none => true
/-- The list is right. -/
def rightM (n : Int) (l : List Md) : Bool := (List.range l.length).all fun j => stepM n l j
theorem rightM_no {n : Int} {l : List Md} {j : Nat} (hj : j < l.length) (h : stepM n l j = false) : rightM n l = false := by
  unfold rightM
  rw [List.all_eq_false]
  exact ⟨j, List.mem_range.2 hj, by simp [h]⟩
theorem rightM_yes {n : Int} {l : List Md} (h : ∀ j, j < l.length → stepM n l j = true) : rightM n l = true := by
  unfold rightM
  rw [List.all_eq_true]
  exact fun j hj => h j (List.mem_range.1 hj)
theorem stepM_at {n : Int} {l : List Md} {j : Nat} {m : Md} (h : l[j]? = some m) : stepM n l j = (okM n m && aheadM l j m && freshM (l.take j) m) := by
  unfold stepM
  rw [h]
theorem fresh_snoc {pre : List Md} {q m : Md} : freshM (pre ++ [q]) m = (freshM pre m && decide (q.s ≠ m.s)) := by simp [freshM]
theorem fresh_hit {l : List Md} {j k : Nat} {q m : Md} (hj : l[j]? = some q) (hk : j < k) (e : q.s = m.s) : freshM (l.take k) m = false := by
  unfold freshM
  rw [List.all_eq_false]
  refine ⟨q, ?_, by simp [e]⟩
  exact List.mem_of_getElem? (i := j) (by rw [List.getElem?_take_of_lt hk]; exact hj)
theorem new_five (V : World) (a b c d e : Value) (t : TypeId) : (V.alloc (.cells #[a, b, c, d, e] t)).cell? ⟨V.heap.size, 0, none⟩ = some a ∧ (V.alloc (.cells #[a, b, c, d, e] t)).cell? ⟨V.heap.size, 1, none⟩ = some b ∧ (V.alloc (.cells #[a, b, c, d, e] t)).cell? ⟨V.heap.size, 2, none⟩ = some c ∧ (V.alloc (.cells #[a, b, c, d, e] t)).cell? ⟨V.heap.size, 3, none⟩ = some d ∧ (V.alloc (.cells #[a, b, c, d, e] t)).cell? ⟨V.heap.size, 4, none⟩ = some e :=
  ⟨by simp, by simp, by simp, by simp, by simp⟩
theorem Try.mixed11 : Try.prog.follows .mixedOrders = true := by kernel_rfl
set_option maxRecDepth 20000 in
set_option maxHeartbeats 1600000 in
theorem refRight11_any (w : World) (x : Value) (l : List Md) (n : Int) (hx : Els encM 5 w x l) (hl0 : l.length ≤ 1000) :
    Calls Try.prog 11 #[.int .i64 n, x] w fun e w' => e = .returned (.bool (rightM n l)) ∧ Below w.heap.size w w' := by
  obtain ⟨a, ca, rfl⟩ := hx.shape
  obtain ⟨L, hn⟩ : ∃ L, L = l.length := ⟨_, rfl⟩
  rw [← hn] at hx hl0 ⊢
  have HN : Hid (L = l.length) := hn
  have HX : Hid (Els encM 5 w (.slice a L ca) l) := hx
  clear hn hx
  go_enter Try.func11, Try.ntmps11
  go_wp2_with fail
  go_loopw [5] (fun i wr => ∃ k : Nat, i = .int .i64 (k : Nat) ∧ k ≤ L ∧ Hid (∀ j, j < k → stepM n l j = true) ∧ Hid (Below w.heap.size w wr)) (fun i _ => L - (intOf i).toNat)
  case atStart => exact ⟨0, rfl, Nat.zero_le _, fun j hj => absurd hj (by omega), Below.refl _ _⟩
  case round =>
    obtain ⟨k, rfl, hk, HT, HB⟩ := hrel
    by_cases hlt : k < L
    · obtain ⟨b, off, rfl, hb, hc⟩ := (HX.out.kept HB.out).md (by omega)
      obtain ⟨mh, mp, ms, mg, mu, hkk⟩ := md_at (xs := l) (j := k) (by rw [← HN.out]; exact hlt)
      have hck := hc k _ hkk
      obtain ⟨c0, c1, c2, c3, c4⟩ := hck
      have HST : Hid (stepM n l k = (okM n ⟨mh, mp, ms, mg, mu⟩ && aheadM l k ⟨mh, mp, ms, mg, mu⟩ && freshM (l.take k) ⟨mh, mp, ms, mg, mu⟩)) := stepM_at hkk
      have HLK : Hid (k < l.length) := by rw [← HN.out]; exact hlt
      obtain ⟨W0, hW⟩ : ∃ W0, W0 = wr.alloc (.cells #[.int .i64 mh, .int .i64 mp, .int .i64 ms, .int .i64 mg, .int .u32 (mu : Nat)] 41) := ⟨_, rfl⟩
      obtain ⟨X, hXX⟩ : ∃ X, X = wr.heap.size := ⟨_, rfl⟩
      have hn5 := new_five wr (.int .i64 mh) (.int .i64 mp) (.int .i64 ms) (.int .i64 mg) (.int .u32 (mu : Nat)) 41
      rw [← hW, ← hXX] at hn5
      obtain ⟨d0, d1, d2, d3, d4⟩ := hn5
      have HB0 : Hid (Below w.heap.size w W0) := by rw [hW]; exact HB.out.alloc HB.out.size _
      have HRI : Hid (Calls Try.prog 29 #[.agg #[.int .i64 mh, .int .i64 mp]] W0 fun e w' => e = .returned (.bool (isR (mh, mp))) ∧ Below W0.heap.size W0 w') := refRight_any mh mp W0
      have HOK : Hid (okM n ⟨mh, mp, ms, mg, mu⟩ = (isR (mh, mp) && decide (0 ≤ ms ∧ ms < n ∧ 1 ≤ mg ∧ mg ≤ 281474976710655))) := rfl
      obtain ⟨RA, hRA⟩ : ∃ RA, isR (mh, mp) = RA := ⟨_, rfl⟩
      rw [hRA] at HRI HOK
      clear hRA hc hb hkk
      go_wp2_with fail
      rw [← hW]
      have HDK : Hid (∀ W, Below W0.heap.size W0 W → W.cell? ⟨X, 0, none⟩ = some (.int .i64 mh) ∧ W.cell? ⟨X, 1, none⟩ = some (.int .i64 mp) ∧ W.cell? ⟨X, 2, none⟩ = some (.int .i64 ms) ∧ W.cell? ⟨X, 3, none⟩ = some (.int .i64 mg)) := fun W hW => ⟨(hW.cell (block_lt_of_cell d0)).trans d0, (hW.cell (block_lt_of_cell d1)).trans d1, (hW.cell (block_lt_of_cell d2)).trans d2, (hW.cell (block_lt_of_cell d3)).trans d3⟩
      try rw [← hXX]
      clear hW hXX
      have HNO : Hid (stepM n l k = false → rightM n l = false) := fun h => rightM_no HLK.out h
      have HCL : Hid (∀ W, Below w.heap.size w W → ∀ j y, l[j]? = some y → W.cell? ⟨b, off + j * 5, none⟩ = some (.int .i64 y.h) ∧ W.cell? ⟨b, off + j * 5 + 1, none⟩ = some (.int .i64 y.p) ∧ W.cell? ⟨b, off + j * 5 + 2, none⟩ = some (.int .i64 y.s) ∧ W.cell? ⟨b, off + j * 5 + 3, none⟩ = some (.int .i64 y.g)) := fun W hW j y hj => by
        obtain ⟨b', off', e, hb', hcc⟩ := (HX.out.kept hW).md (by omega)
        simp only [Option.some.injEq, Addr.mk.injEq, and_true] at e
        obtain ⟨rfl, rfl⟩ := e
        have h := hcc j y hj
        exact ⟨h.1, h.2.1, h.2.2.1, h.2.2.2.1⟩
      refine HRI.out.mono ?_
      rintro e w1 ⟨rfl, hB1⟩
      obtain ⟨f0, f1, f2, f3⟩ := HDK.out w1 hB1
      have HB1 : Hid (Below w.heap.size w w1) := HB0.out.trans (hB1.mono HB0.out.size)
      clear hB1 HRI HDK d0 d1 d2 d3 d4 c0 c1 c2 c3 c4 HB0 HB
      cases RA
      · have HF : Hid (rightM n l = false) := HNO.out (by rw [HST.out, HOK.out]; rfl)
        clear HST HOK HNO
        go_wp2_with fail
        go_ret
        exact ⟨ret_bool HF.out.symm, HB1.out⟩
      · by_cases p1 : ms < 0
        · have HF : Hid (rightM n l = false) := HNO.out (by rw [HST.out, HOK.out]; simp; omega)
          clear HST HOK HNO
          go_wp2_with fail
          go_ret
          exact ⟨ret_bool HF.out.symm, HB1.out⟩
        by_cases p2 : n ≤ ms
        · have HF : Hid (rightM n l = false) := HNO.out (by rw [HST.out, HOK.out]; simp; omega)
          clear HST HOK HNO
          go_wp2_with fail
          go_ret
          exact ⟨ret_bool HF.out.symm, HB1.out⟩
        by_cases p3 : mg < 1
        · have HF : Hid (rightM n l = false) := HNO.out (by rw [HST.out, HOK.out]; simp; omega)
          clear HST HOK HNO
          go_wp2_with fail
          go_ret
          exact ⟨ret_bool HF.out.symm, HB1.out⟩
        by_cases p4 : 281474976710655 < mg
        · have HF : Hid (rightM n l = false) := HNO.out (by rw [HST.out, HOK.out]; simp; omega)
          clear HST HOK HNO
          go_wp2_with fail
          go_ret
          exact ⟨ret_bool HF.out.symm, HB1.out⟩
        have HOKT : Hid (okM n ⟨mh, mp, ms, mg, mu⟩ = true) := by rw [HOK.out]; simp [Hid]; omega
        clear HOK
        by_cases hk0 : k = 0
        · subst hk0
          have HAH : Hid (aheadM l 0 ⟨mh, mp, ms, mg, mu⟩ = true) := rfl
          have hcall : True := trivial
          go_wp2_with fail
          refine wp_region_quiet_below Try.mixed11 (by kernel_rfl) ?_
          generalize hA : Act.mk _ _ = fr9
          repeat (refine wpQuiet_step (fun K hK => ?_); subst hA; go_simp; generalize hA : Act.mk _ _ = fr9; refine hK _ ?_; clear hK K)
          refine wpQuiet_nil ?_
          subst hA
          intro _ hw'
          obtain ⟨⟨dq, osq⟩, hw''⟩ := hw'
          subst hw''
          dsimp only
          have HB4 : Hid (Below w.heap.size w (Sort.grow (redrawn w1 dq) osq)) := HB1.out.trans ((below_regrown w1 dq osq).mono HB1.out.size)
          have t2 := cell_regrown f2 dq osq
          generalize Sort.grow (redrawn w1 dq) osq = W4 at *
          clear f0 f1 f2 f3 hcall
          go_wp2_with fail
          go_loopw [7] (fun i wr => ∃ j : Nat, i = .int .i64 (j : Nat) ∧ j ≤ 0 ∧ Hid (freshM (l.take j) ⟨mh, mp, ms, mg, mu⟩ = true) ∧ ∃ m, wr = W4.drewN m) (fun i _ => 0 - (intOf i).toNat)
          case atStart => exact ⟨0, rfl, Nat.zero_le _, rfl, 0, rfl⟩
          case round =>
            obtain ⟨j, rfl, hj, HFR, m2, rfl⟩ := hrel
            by_cases hlt2 : j < 0
            · exact absurd hlt2 (Nat.not_lt_zero _)
            · have HFK : Hid (freshM (l.take 0) ⟨mh, mp, ms, mg, mu⟩ = true) := by
                have : j = 0 := by omega
                have h1 := HFR.out
                rwa [this] at h1
              have HT2 : Hid (∀ j, j < 0 + 1 → stepM n l j = true) := fun j hj => by
                by_cases e : j = 0
                · subst e; rw [HST.out, HOKT.out, HAH.out, HFK.out]; rfl
                · exact HT.out j (by omega)
              have HB5 : Hid (Below w.heap.size w (W4.drewN m2)) := HB4.out.trans ((below_dr W4 m2).mono HB4.out.size)
              clear HST HNO HOKT HAH HFK HFR
              go_wp2_with fail
              go_roundw
              case rel => exact ⟨0 + 1, by go_num, by omega, HT2.out, HB5.out⟩
              case measure => simp [intOf]; omega
        · obtain ⟨i, hi⟩ : ∃ i, k = i + 1 := ⟨k - 1, by omega⟩
          have hki : (k : Int) - 1 = (i : Nat) := by omega
          have hik : i < L := by omega
          have hkw : IntKind.i64.wrap ((i : Nat) : Int) = (i : Nat) := by rw [IntKind.wrap_i64]; omega
          have hiL : ((i : Nat) : Int) < (L : Nat) := by omega
          have hi0 : (0 : Int) ≤ (i : Nat) := by omega
          have hkpos : (0 : Int) < (k : Nat) := by omega
          have hkd : decide ((0 : Int) < (k : Nat)) = true := decide_eq_true hkpos
          have hkn : 0 < k := by omega
          have hkd2 : decide (0 < k) = true := decide_eq_true hkn
          obtain ⟨qh, qp, qs, qg, qu, hqq⟩ := md_at (xs := l) (j := i) (by have := HLK.out; omega)
          have HAE : Hid (aheadM l k ⟨mh, mp, ms, mg, mu⟩ = ltK (qh, qp) (mh, mp)) := by subst hi; unfold Hid aheadM; simp only [hqq]; rfl
          have e0 : w1.cell? ⟨b, off + i * 5, none⟩ = some (.int .i64 qh) := (HCL.out w1 HB1.out i _ hqq).1
          have e1 : w1.cell? ⟨b, off + i * 5 + 1, none⟩ = some (.int .i64 qp) := (HCL.out w1 HB1.out i _ hqq).2.1
          clear hqq hi
          have HLS : Hid (∀ W, Calls Try.prog 17 #[.agg #[.int .i64 qh, .int .i64 qp], .agg #[.int .i64 mh, .int .i64 mp]] W fun e w' => e = .returned (.bool (ltK (qh, qp) (mh, mp))) ∧ Below W.heap.size W w') := fun W => refLess_any qh qp mh mp W
          generalize ltK (qh, qp) (mh, mp) = LT at *
          have p0 := cell_regrown e0
          have p1 := cell_regrown e1
          have p2 := cell_regrown f0
          have p3 := cell_regrown f1
          have hcall : ∀ d os, Calls Try.prog 17 #[.agg #[.int .i64 qh, .int .i64 qp], .agg #[.int .i64 mh, .int .i64 mp]] (Sort.grow (redrawn w1 d) os) fun e w'' => e = .returned (.bool LT) ∧ ∃ p : Regrown, w'' = Sort.grow (redrawn w1 p.d) p.os := fun d os => Calls.regrown_of (HLS.out _)
          clear HLS
          cases LT
          · have HF : Hid (rightM n l = false) := HNO.out (by rw [HST.out, HAE.out]; simp)
            clear HST HNO HAE
            go_wp2_with fail
            refine wp_region_quiet_below Try.mixed11 (by kernel_rfl) ?_
            repeat (quiet_step (first | (go_at_call 17; with_reducible exact hcall _ _)))
            refine wpQuiet_nil ?_
            intro _ hw'
            obtain ⟨⟨dq, osq⟩, hw''⟩ := hw'
            subst hw''
            dsimp only
            have HB4 : Hid (Below w.heap.size w (Sort.grow (redrawn w1 dq) osq)) := HB1.out.trans ((below_regrown w1 dq osq).mono HB1.out.size)
            have t2 := cell_regrown f2 dq osq
            generalize Sort.grow (redrawn w1 dq) osq = W4 at *
            clear f0 f1 f2 f3 hcall hkw p0 p1 p2 p3 e0 e1
            go_wp2_with fail
            go_ret
            exact ⟨ret_bool HF.out.symm, HB4.out⟩
          · have HAH : Hid (aheadM l k ⟨mh, mp, ms, mg, mu⟩ = true) := HAE.out
            clear HAE
            go_wp2_with fail
            refine wp_region_quiet_below Try.mixed11 (by kernel_rfl) ?_
            repeat (quiet_step (first | (go_at_call 17; with_reducible exact hcall _ _)))
            refine wpQuiet_nil ?_
            intro _ hw'
            obtain ⟨⟨dq, osq⟩, hw''⟩ := hw'
            subst hw''
            dsimp only
            have HB4 : Hid (Below w.heap.size w (Sort.grow (redrawn w1 dq) osq)) := HB1.out.trans ((below_regrown w1 dq osq).mono HB1.out.size)
            have t2 := cell_regrown f2 dq osq
            generalize Sort.grow (redrawn w1 dq) osq = W4 at *
            clear f0 f1 f2 f3 hcall hkw p0 p1 p2 p3 e0 e1
            go_wp2_with fail
            go_loopw [7] (fun i wr => ∃ j : Nat, i = .int .i64 (j : Nat) ∧ j ≤ k ∧ Hid (freshM (l.take j) ⟨mh, mp, ms, mg, mu⟩ = true) ∧ ∃ m, wr = W4.drewN m) (fun i _ => k - (intOf i).toNat)
            case atStart => exact ⟨0, rfl, Nat.zero_le _, rfl, 0, rfl⟩
            case round =>
              obtain ⟨j, rfl, hj, HFR, m2, rfl⟩ := hrel
              by_cases hlt2 : j < k
              · obtain ⟨qh, qp, qs, qg, qu, hqq⟩ := md_at (xs := l) (j := j) (by have := HLK.out; omega)
                have c2 : W4.cell? ⟨b, off + j * 5 + 2, none⟩ = some (.int .i64 qs) := (HCL.out W4 HB4.out j _ hqq).2.2.1
                have HHIT : Hid (qs = ms → freshM (l.take k) ⟨mh, mp, ms, mg, mu⟩ = false) := fun e => fresh_hit hqq hlt2 e
                have HNEX : Hid (qs ≠ ms → freshM (l.take (j + 1)) ⟨mh, mp, ms, mg, mu⟩ = true) := fun e => by rw [take_snocA hqq, fresh_snoc, HFR.out]; simpa using e
                clear hqq
                by_cases q1 : qs = ms
                · have HF : Hid (rightM n l = false) := HNO.out (by rw [HST.out, HHIT.out q1]; simp)
                  have HB5 : Hid (Below w.heap.size w (W4.drewN m2)) := HB4.out.trans ((below_dr W4 m2).mono HB4.out.size)
                  clear HNEX HHIT HNO HST HFR
                  subst q1
                  go_wp2_with fail
                  go_quiet (fail)
                  go_wp2_with fail
                  go_ret
                  rw [World.drewN_drewN]
                  exact ⟨ret_bool HF.out.symm, HB4.out.trans ((below_dr W4 _).mono HB4.out.size)⟩
                · have HFR2 : Hid (freshM (l.take (j + 1)) ⟨mh, mp, ms, mg, mu⟩ = true) := HNEX.out q1
                  have hne : (qs = ms) = False := eq_false q1
                  have hne2 : (qs == ms) = false := by simpa using q1
                  clear HNEX HHIT HFR
                  go_wp2_with fail
                  go_quiet (fail)
                  go_wp2_with fail
                  go_roundw
                  case rel => exact ⟨j + 1, by go_num, by omega, HFR2.out, _, rfl⟩
                  case measure => simp [intOf]; omega
              · have HFK : Hid (freshM (l.take k) ⟨mh, mp, ms, mg, mu⟩ = true) := by
                  have : j = k := by omega
                  have h1 := HFR.out
                  rwa [this] at h1
                have HT2 : Hid (∀ j, j < k + 1 → stepM n l j = true) := fun j hj => by
                  by_cases e : j = k
                  · subst e; rw [HST.out, HOKT.out, HAH.out, HFK.out]; rfl
                  · exact HT.out j (by omega)
                have HB5 : Hid (Below w.heap.size w (W4.drewN m2)) := HB4.out.trans ((below_dr W4 m2).mono HB4.out.size)
                clear HST HNO HOKT HAH HFK HFR
                go_wp2_with fail
                go_roundw
                case rel => exact ⟨k + 1, by go_num, by omega, HT2.out, HB5.out⟩
                case measure => simp [intOf]; omega
    · have HE : Hid (rightM n l = true) := rightM_yes (fun j hj => HT.out j (by have := HN.out; omega))
      go_wp2
      go_ret
      exact ⟨ret_bool HE.out.symm, HB.out⟩
end Go.Proofs.Ytfclhehpbniapaa
