/- The document's Join: its contract. -/
import Derived.Test.YtndeknkfljnjoaaDoorWalkRefCut6
import Derived.BigQuiet
import Derived.Deep.QuietTactic
namespace Go.Proofs.YtndeknkfljnjoaaDoor
open Go.RowKit
set_option linter.unusedVariables false

def joinV (o : Option (List Nat × Nat)) : Value := match o with | some (p, k) => .tuple #[.string (strN p), .int .i64 (k : Nat)] | none => .tuple #[.string ⟨#[]⟩, .int .i64 0]
theorem below_drewN6 (w : World) (n : Nat) : Below w.heap.size w (w.drewN n) := ⟨rfl, rfl, rfl, Nat.le_refl _, fun _ _ => rfl⟩
theorem str_nil : (⟨#[]⟩ : ByteArray) = strN [] := by decide +kernel
theorem secAt6_length (b : List Nat) (i : Nat) (h : 128 * i + 128 ≤ b.length) : (secAt6 b i).length = 128 := by unfold secAt6; rw [List.length_take, List.length_drop]; omega
theorem okId_of {q : Part} (h : okP q = true) : okId q.epoch q.number = true := okId_right.2 ⟨(okP_right.1 h).epoch, (okP_right.1 h).number⟩

set_option maxHeartbeats 1000000 in
set_option maxRecDepth 20000 in
theorem refJoin6 (zs : List Nat) (hz : ∀ z ∈ zs, z < 256) (hl : zs.length ≤ 60000) (e n : Int) (w : World) :
    Calls Tryd.prog 18 #[.string (strN zs), .int .i64 e, .int .i64 n] w fun x w' => x = .returned (joinV (joinS zs e n)) ∧ Below w.heap.size w w' := by
  have hsz := strN_size zs
  have HZ : Hid (∀ z ∈ zs, z < 256) := hz
  have HJ0 : Hid (joinL zs e n (zs.length / 128 + 1) 0 [] = joinS zs e n) := rfl
  have HJL : Hid (∀ f i p, joinL zs e n (f + 1) i p = if 128 * i + 128 ≤ zs.length then (if fitP e n i (getP (secAt6 zs i)) = true then (if footP (getP (secAt6 zs i)) = true then (if 0 < sectorsN p.length ∧ cutS e n p = zs.take (128 * i + 128) then some (p, i + 1) else none) else joinL zs e n f (i + 1) (p ++ dataP (getP (secAt6 zs i)))) else none) else none) := fun _ _ _ => rfl
  have HSL : Hid (∀ i, 128 * i + 128 ≤ zs.length → (secAt6 zs i).length = 128) := fun i h => secAt6_length zs i h
  have HSS : Hid (∀ i, ∀ z ∈ secAt6 zs i, z < 256) := fun i => small_part hz _ _
  have HSC : Hid (∀ i, (strN zs).extract (128 * i) (128 * i + 128) = strN (secAt6 zs i)) := fun i => by rw [strN_cut, Nat.add_sub_cancel_left]; rfl
  have HTC : Hid (∀ k, (strN zs).extract 0 k = strN (zs.take k)) := fun k => by rw [strN_cut]; rfl
  have HTS : Hid (∀ k, ∀ z ∈ zs.take k, z < 256) := fun k z h => hz z (List.mem_of_mem_take h)
  have HVN : Hid (joinV none = .tuple #[.string ⟨#[]⟩, .int .i64 0]) := rfl
  have HVS : Hid (∀ p k, joinV (some (p, k)) = .tuple #[.string (strN p), .int .i64 (k : Nat)]) := fun _ _ => rfl
  generalize hLL : zs.length = LL at *
  clear hLL hz
  generalize joinS zs e n = JS at *
  go_enter Tryd.func18, Tryd.ntmps18
  go_wp2_with fail
  go_loopw [8, 9] (fun s x wr => ∃ (i : Nat) (pl : List Nat), x = .int .i64 (i : Nat) ∧ s = .string (strN pl) ∧ i ≤ LL / 128 ∧ pl.length ≤ 112 * i ∧ Hid (∀ z ∈ pl, z < 256) ∧ Hid (joinL zs e n (LL / 128 + 1 - i) i pl = JS) ∧ Hid (Below w.heap.size w wr)) (fun _ x _ => LL / 128 + 1 - (intOf x).toNat)
  case atStart => exact ⟨0, [], rfl, by rw [str_nil], Nat.zero_le _, by simp, fun z h => (by cases h), HJ0.out, Below.refl _ _⟩
  case round =>
    obtain ⟨i, pl, rfl, rfl, hi, hpl, HPS, HJ, GB⟩ := hrel
    obtain ⟨lo, hlo⟩ : ∃ lo : Nat, lo = 128 * i := ⟨_, rfl⟩
    have e1 : (128 : Int) * (i : Int) = (lo : Int) := by omega
    have e2 : IntKind.i64.wrap (lo : Int) = (lo : Int) := by rw [IntKind.wrap_i64]; omega
    have e3 : IntKind.i64.wrap ((lo : Int) + 128) = (lo : Int) + 128 := by rw [IntKind.wrap_i64]; omega
    have e4 : IntKind.i64.wrap ((i : Int) + 1) = (i : Int) + 1 := by rw [IntKind.wrap_i64]; omega
    have e5 : ((lo : Int) + 128).toNat = lo + 128 := by omega
    have HF := HJL.out (LL / 128 - i) i pl
    rw [show LL / 128 - i + 1 = LL / 128 + 1 - i by omega, HJ.out] at HF
    have HX := HSC.out i
    have HTX := HTC.out (128 * i + 128)
    have HTXS := HTS.out (128 * i + 128)
    rw [← hlo] at HF HX HTX HTXS
    have HXL := HSL.out i
    rw [← hlo] at HXL
    have HXS := HSS.out i
    have hps := strN_size pl
    by_cases hend : lo + 128 ≤ LL
    · have hend' : (lo : Int) + 128 ≤ (LL : Int) := by omega
      rw [if_pos hend] at HF
      have HXL' : Hid ((secAt6 zs i).length = 128) := HXL hend
      have HXS' : Hid (∀ z ∈ secAt6 zs i, z < 256) := HXS
      have HFh : Hid (JS = _) := HF
      have HLO : Hid (lo = 128 * i) := hlo
      have hg0 : (0 : Int) ≤ (lo : Int) + 128 := by omega
      have hg1 : (lo : Int) ≤ (lo : Int) + 128 := by omega
      clear HF HXL HXS hlo HJL HSL HSS HSC HTC HTS HJ
      generalize secAt6 zs i = SC at *
      go_wp2_with fail
      refine (refGet6 SC HXS'.out (by rw [HXL'.out]; decide) wr).mono ?_
      rintro x w1 ⟨v, rfl, ho, hnil, hb⟩
      have GB1 : Hid (Below w.heap.size w w1) := GB.out.trans (hb.mono GB.out.size)
      clear hb
      cases hG : getP SC with
      | none =>
        rw [hG] at ho hnil HFh
        obtain rfl := hnil rfl
        have HN : Hid (JS = none) := HFh.out.trans (if_neg (by simp [fitP]))
        have HV : Hid (gotV none (.slice none 0 0) = .tuple #[.agg #[.bool false, .int .i64 0, .int .i64 0, .int .i64 0, .slice none 0 0], .bool false]) := rfl
        rw [HV.out]
        have GB2 : Hid (Below w.heap.size w (w1.alloc (.cells #[.bool false, .int .i64 0, .int .i64 0, .int .i64 0, .slice none 0 0] 24))) := GB1.out.alloc GB1.out.size _
        clear HFh ho hnil hG
        go_wp2
        go_ret2
        rw [HN.out, HVN.out]
        exact ⟨rfl, GB2.out⟩
      | some q =>
        rw [hG] at ho HFh
        have hokq := (getP_some hG).1
        clear hnil
        obtain ⟨a2, cap2, rfl⟩ := ho.shape
        have HOq : Hid (Octs w1 (.slice a2 q.data.length cap2) q.data) := ho
        have HV : Hid (gotV (some q) (.slice a2 q.data.length cap2) = .tuple #[.agg #[.bool q.foot, .int .i64 q.epoch, .int .i64 q.number, .int .i64 q.index, .slice a2 q.data.length cap2], .bool true]) := rfl
        have HV' : Hid (gotV (some q) (.slice a2 ((some q).getD Part.zero).data.length cap2) = .tuple #[.agg #[.bool q.foot, .int .i64 q.epoch, .int .i64 q.number, .int .i64 q.index, .slice a2 q.data.length cap2], .bool true]) := rfl
        rw [HV'.out]
        have HPA : Hid (PA (w1.alloc (.cells #[.bool q.foot, .int .i64 q.epoch, .int .i64 q.number, .int .i64 q.index, .slice a2 q.data.length cap2] 24)) w1.heap.size q.foot q.epoch q.number q.index (.slice a2 q.data.length cap2)) := heap_alloc_new _ _
        have GB2 : Hid (Below w.heap.size w (w1.alloc (.cells #[.bool q.foot, .int .i64 q.epoch, .int .i64 q.number, .int .i64 q.index, .slice a2 q.data.length cap2] 24))) := GB1.out.alloc GB1.out.size _
        have hdl : q.data.length ≤ 112 := (okP_right.1 hokq).data
        have hqs : Hid (∀ z ∈ q.data, z < 256) := HOq.out.small
        clear ho hG
        by_cases he : q.epoch = e
        · by_cases hn : q.number = n
          · by_cases hx : q.index = (i : Nat)
            · have HFt : Hid (fitP e n i (some q) = true) := by simp [Hid, fitP, he, hn, hx]
              have HF2 := HFh.out.trans (if_pos HFt.out)
              have hid : okId e n = true := by rw [← he, ← hn]; exact okId_of hokq
              by_cases hft : q.foot = true
              · have HF3 := HF2.trans (if_pos (by simp [footP, hft]))
                rw [he, hn, hx, hft] at GB2
                have hpll : pl.length ≤ 65000 := by omega
                have HSR : Hid (∀ W, Calls Tryd.prog 37 #[.int .i64 (pl.length : Nat)] W fun x w' => x = .returned (.int .i64 (sectorsN pl.length)) ∧ w' = W) := fun W => refSectors6 _ W (by omega) (by omega)
                clear HF2 HFh HPA HOq HV HV' hqs hdl
                by_cases hsec : 0 < sectorsN pl.length
                · have hback : ∀ W : World, (convert 9 22 (.string (strN pl))).run Tryd.prog W = .ok (.slice (some ⟨W.heap.size, 0, none⟩) pl.length (grownCap W pl.length 0 5)) (Lib.bytesWorld W 5 (strN pl)) := fun W => (conv_back6 W pl HPS.out (by omega)).1
                  have HBK : Hid (∀ W : World, Octs (Lib.bytesWorld W 5 (strN pl)) (.slice (some ⟨W.heap.size, 0, none⟩) pl.length (grownCap W pl.length 0 5)) pl ∧ Below W.heap.size W (Lib.bytesWorld W 5 (strN pl))) := fun W => (conv_back6 W pl HPS.out (by omega)).2
                  have HCT : Hid (∀ a c W, Octs W (.slice a pl.length c) pl → Calls Tryd.prog 15 #[.int .i64 e, .int .i64 n, .slice a pl.length c] W fun x w' => x = .returned (.string (strN (cutS e n pl))) ∧ Below W.heap.size W w') := fun a c W h => refCut6 e n a pl.length c pl W h hid hpll
                  have heq := str_eqv (cutS e n pl) (zs.take (lo + 128)) (cutS_small HPS.out e n) HTXS
                  by_cases hcut : cutS e n pl = zs.take (lo + 128)
                  · have HN : Hid (JS = some (pl, i + 1)) := HF3.trans (if_pos ⟨hsec, hcut⟩)
                    rw [decide_eq_true hcut] at heq
                    clear HF3 hcut HTXS hid
                    generalize sectorsN pl.length = SN at *
                    generalize cutS e n pl = CS at *
                    go_wp2_with fail
                    generalize (w1.alloc (.cells #[.bool true, .int .i64 e, .int .i64 n, .int .i64 (i : Nat), .slice a2 q.data.length cap2] 24)) = V at *
                    go_region_held (fun _ => True) (trivial) (first
                      | (go_at_call 37; refine (HSR.out _).mono ?_; rintro x w3 ⟨rfl, rfl⟩)
                      | (go_at_call 15; refine (HCT.out _ _ _ (HBK.out V.drew).1).mono ?_; rintro x w4 ⟨rfl, hb4⟩; have GB4 : Hid (Below w.heap.size w w4) := GB2.out.trans ((((Below.refl _ _).drew.trans ((HBK.out V.drew).2)).trans (hb4.mono (HBK.out V.drew).2.size)).mono GB2.out.size); clear hb4))
                    all_goals
                      go_wp2
                      go_ret2
                      rw [HN.out, HVS.out]
                      exact ⟨by go_num, GB4.out⟩
                  · have HN : Hid (JS = none) := HF3.trans (if_neg (fun h => hcut h.2))
                    rw [decide_eq_false hcut] at heq
                    clear HF3 hcut HTXS hid
                    generalize sectorsN pl.length = SN at *
                    generalize cutS e n pl = CS at *
                    go_wp2_with fail
                    generalize (w1.alloc (.cells #[.bool true, .int .i64 e, .int .i64 n, .int .i64 (i : Nat), .slice a2 q.data.length cap2] 24)) = V at *
                    go_region_held (fun _ => True) (trivial) (first
                      | (go_at_call 37; refine (HSR.out _).mono ?_; rintro x w3 ⟨rfl, rfl⟩)
                      | (go_at_call 15; refine (HCT.out _ _ _ (HBK.out V.drew).1).mono ?_; rintro x w4 ⟨rfl, hb4⟩; have GB4 : Hid (Below w.heap.size w w4) := GB2.out.trans ((((Below.refl _ _).drew.trans ((HBK.out V.drew).2)).trans (hb4.mono (HBK.out V.drew).2.size)).mono GB2.out.size); clear hb4))
                    all_goals
                      go_wp2
                      go_ret2
                      rw [HN.out, HVN.out]
                      exact ⟨rfl, GB4.out⟩
                · have HN : Hid (JS = none) := HF3.trans (if_neg (fun h => hsec h.1))
                  clear HF3 HTXS hid
                  have hs0 : sectorsN pl.length = 0 := by
                    unfold sectorsN at hsec ⊢
                    split
                    · rename_i h; rw [if_pos h] at hsec; omega
                    · rfl
                  rw [hs0] at HSR
                  clear hsec hs0
                  go_wp2_with fail
                  generalize (w1.alloc (.cells #[.bool true, .int .i64 e, .int .i64 n, .int .i64 (i : Nat), .slice a2 q.data.length cap2] 24)) = V at *
                  go_quiet (first | (go_at_call 37; exact Calls.quiet_of_same (HSR.out _)))
                  go_wp2
                  go_ret2
                  rw [HN.out, HVN.out]
                  exact ⟨rfl, GB2.out.trans ((below_drewN6 V _).mono GB2.out.size)⟩
              · have hft' : q.foot = false := by simpa using hft
                have HF3 : Hid (JS = joinL zs e n (LL / 128 - i) (i + 1) (pl ++ q.data)) := HF2.trans (if_neg (by simp [footP, hft']))
                have hcv : (convert 22 9 (.slice a2 q.data.length cap2)).run Tryd.prog (w1.alloc (.cells #[.bool q.foot, .int .i64 q.epoch, .int .i64 q.number, .int .i64 q.index, .slice a2 q.data.length cap2] 24)) = .ok (.string (strN q.data)) (w1.alloc (.cells #[.bool q.foot, .int .i64 q.epoch, .int .i64 q.number, .int .i64 q.index, .slice a2 q.data.length cap2] 24)) := conv_octs (P := Tryd.prog) (HOq.out.alloc _) _ _ _ Tryd.underlying22 Tryd.underlying5 Tryd.underlying9
                have hds := strN_size q.data
                have hss : strN pl ++ strN q.data = strN (pl ++ q.data) := strN_append _ _
                have hln : pl.length + q.data.length ≤ 9223372036854775807 := by omega
                have HI : Hid (i < LL / 128) := by have := HLO.out; unfold Hid; omega
                clear HF2 HFh hft HPA
                rw [he, hn, hx, hft'] at GB2 hcv
                go_wp2
                go_roundw
                case rel => exact ⟨i + 1, pl ++ q.data, by go_num, rfl, by have := HI.out; omega, by rw [List.length_append]; omega, app_small HPS.out hqs.out, (by rw [show LL / 128 + 1 - (i + 1) = LL / 128 - i by omega]; exact HF3.out.symm), GB2.out⟩
                case measure => have := HI.out; simp [intOf]; omega
            · have HN : Hid (JS = none) := HFh.out.trans (if_neg (by simp [fitP, hx]))
              clear HFh HPA
              rw [he, hn] at GB2
              go_wp2
              go_ret2
              rw [HN.out, HVN.out]
              exact ⟨rfl, GB2.out⟩
          · have HN : Hid (JS = none) := HFh.out.trans (if_neg (by simp [fitP, hn]))
            clear HFh HPA
            rw [he] at GB2
            go_wp2
            go_ret2
            rw [HN.out, HVN.out]
            exact ⟨rfl, GB2.out⟩
        · have HN : Hid (JS = none) := HFh.out.trans (if_neg (by simp [fitP, he]))
          clear HFh
          go_wp2
          go_ret2
          rw [HN.out, HVN.out]
          exact ⟨rfl, GB2.out⟩
    · have hend' : ¬ (lo : Int) + 128 ≤ (LL : Int) := by omega
      rw [if_neg hend] at HF
      have HN : Hid (JS = none) := HF
      clear HF HXL HXS hlo HX HTX HTXS
      have GB2 := GB
      go_wp2
      go_ret2
      rw [HN.out, HVN.out]
      exact ⟨rfl, GB2.out⟩
end Go.Proofs.YtndeknkfljnjoaaDoor
