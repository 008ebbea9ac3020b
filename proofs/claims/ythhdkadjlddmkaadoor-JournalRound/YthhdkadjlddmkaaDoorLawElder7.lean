/- The law JournalElder over the bundle. -/
import Derived.Test.YthhdkadjlddmkaaDoorLawFits7b
namespace Go.Proofs.YthhdkadjlddmkaaDoor
open Go.RowKit
set_option linter.unusedVariables false

theorem pick20 (b : Nat) (hb : b ≤ 20) (a : Int) : ∃ (r q : Int) (k : Nat), a.tmod 20 = r ∧ (r + 20).tmod 20 = q ∧ (b : Nat) + q = (k : Nat) ∧ wrap64 (r + 20) = r + 20 ∧ wrap64 (k : Nat) = (k : Nat) ∧ wrap64 r = r ∧ wrap64 q = q ∧ b ≤ k ∧ k ≤ b + 19 := by
  have h1 : -20 < a.tmod 20 := Int.lt_tmod_of_pos a (by decide)
  have h2 : a.tmod 20 < 20 := Int.tmod_lt_of_pos a (by decide)
  generalize a.tmod 20 = r at h1 h2
  have h3 : 0 ≤ (r + 20).tmod 20 := Int.tmod_nonneg _ (by omega)
  have h4 : (r + 20).tmod 20 < 20 := Int.tmod_lt_of_pos _ (by decide)
  generalize hq : (r + 20).tmod 20 = q at h3 h4
  refine ⟨r, q, ((b : Nat) + q).toNat, rfl, hq, ?_, wrap_small ?_ ?_, wrap_small ?_ ?_, wrap_small ?_ ?_, wrap_small ?_ ?_, ?_, ?_⟩
  all_goals (clear hq; omega)
theorem pickK (k : Nat) (h1 : 1 ≤ k) (h2 : k ≤ 100) (a : Int) : ∃ (r : Int) (s : Nat), a.tmod (k : Nat) = r ∧ (r + (k : Nat)).tmod (k : Nat) = (s : Nat) ∧ wrap64 (r + (k : Nat)) = r + (k : Nat) ∧ wrap64 r = r ∧ wrap64 (s : Nat) = (s : Nat) ∧ s < k := by
  have hp : (0 : Int) < (k : Nat) := by omega
  have g1 : -((k : Nat) : Int) < a.tmod (k : Nat) := by have := Int.lt_tmod_of_pos a hp; omega
  have g2 : a.tmod (k : Nat) < (k : Nat) := Int.tmod_lt_of_pos a hp
  generalize a.tmod (k : Nat) = r at g1 g2
  have g3 : 0 ≤ (r + (k : Nat)).tmod (k : Nat) := Int.tmod_nonneg _ (by omega)
  have g4 : (r + (k : Nat)).tmod (k : Nat) < (k : Nat) := Int.tmod_lt_of_pos _ hp
  generalize hq : (r + (k : Nat)).tmod (k : Nat) = q at g3 g4
  refine ⟨r, q.toNat, rfl, hq.trans ?_, wrap_small ?_ ?_, wrap_small ?_ ?_, wrap_small ?_ ?_, ?_⟩
  all_goals (clear hq; omega)
theorem pick400 (z : Nat) (hz : z < 65536) : ∃ g m : Nat, (wrap64 (z : Nat)).tmod 400 = (g : Nat) ∧ 1 + ((g : Nat) : Int) = (m : Nat) ∧ wrap64 (z : Nat) = (z : Nat) ∧ wrap64 (g : Nat) = (g : Nat) ∧ wrap64 (m : Nat) = (m : Nat) ∧ 1 ≤ m ∧ m ≤ 400 := by
  have hg : z % 400 < 400 := Nat.mod_lt _ (by decide)
  refine ⟨z % 400, 1 + z % 400, ?_, by omega, wrap_small (by omega) (by omega), wrap_small (by omega) (by omega), wrap_small (by omega) (by omega), by omega, by omega⟩
  rw [wrap_small (by omega) (by omega), Int.tmod_eq_emod_of_nonneg (by omega)]; omega
theorem Goes.any {S : St} {J : JS} {start j : Nat} {sure : List (List Nat)} (h : Goes S J start sure j) (zs : List Nat) (hz : (1 ≤ zs.length ∧ zs.length ≤ 65000) ∧ ∀ z ∈ zs, z < 256) :
    ∃ S' J' sure' c, appendR S J zs = (S', J', c) ∧ Goes S' J' start sure' (j + 1) ∧ J'.n = J.n ∧ J'.epoch = J.epoch ∧ J'.fr = J.fr := by
  by_cases hr : partsN zs.length + 1 ≤ J.n - J.used
  · obtain ⟨S', h1, h2⟩ := h.on zs hz hr
    exact ⟨_, _, _, _, h1, h2, rfl, rfl, rfl⟩
  · exact ⟨_, _, _, _, appendR_log h.dead h.dirty hz.1 (by omega), h.mono (by omega), rfl, rfl, rfl⟩
theorem see_safe {S : St} (h : S.waits = []) : S.see = S.safe := by
  funext k
  exact see_none (by rw [h]; rfl)
theorem spent_same {S : St} (h : S.left = -1) : S.spent = S := by
  unfold St.spent
  rw [h]
  cases S
  cases h
  rfl
/-- Where no sector tells the epoch, an empty journal is opened. -/
theorem open_none {f : Nat → Sec} {fr n e start : Nat} (hn : 0 < n) (hst : start < n) (h : ∀ i, i < n → numAt (f (fr + i)).l 1 ≠ (e : Nat)) : openPs f fr n e start = [] ∧ openJ f fr n e start = JS.fresh fr n e start := by
  have h1 : ∀ i, numAt (ringF f fr n start i).l 1 ≠ (e : Nat) := fun i => h _ (Nat.mod_lt _ hn)
  have h2 : openPs f fr n e start = [] := by
    have : joinS (secsN (ringF f fr n start) 0 n) (e : Nat) ((0 : Nat) : Int) = none := join_clean _ _ _ fun i hi => by
      rw [secsN_length] at hi
      rw [secsN_at' _ _ _ _ (by omega)]
      exact h1 _
    unfold openPs
    rw [scanL, this]
  refine ⟨h2, ?_⟩
  unfold openJ JS.fresh
  rw [h2]
  have h3 : dirtyR f fr n start (sumT []) e = false := by
    cases hd : dirtyR f fr n start (sumT []) e with
    | false => rfl
    | true =>
      obtain ⟨i, _, hi⟩ := List.any_eq_true.1 hd
      exact absurd (of_decide_eq_true hi) (h1 _)
  rw [h3]
  show JS.mk fr n e ((start + 0) % n) 0 0 false false = _
  rw [Nat.add_zero, Nat.mod_eq_of_lt hst]
/-- Behind a reset no sector tells the new epoch. -/
theorem reset_clean {S : St} {J : JS} {start j : Nat} {sure : List (List Nat)} (h : Goes S J start sure j) (he : J.epoch = 5) : resetR J = ({ J with epoch := 6, count := 0, used := 0, dirty := false }, 0) ∧ ∀ i, i < J.n → numAt (S.safe (J.fr + i)).l 1 ≠ ((6 : Nat) : Int) := by
  have hr : resetR J = ({ J with epoch := J.epoch + 1, count := 0, used := 0, dirty := false }, 0) := by
    unfold resetR
    rw [if_neg (by rw [h.dead]; decide), if_neg (by rw [he]; decide)]
  rw [he] at hr
  refine ⟨hr, fun i hi => ?_⟩
  obtain ⟨x, hx, hxi⟩ := mod_onto h.inv.ring.st hi
  have := h.inv.ring.le x hx
  unfold ringF at this
  rw [hxi, he] at this
  omega

set_option maxRecDepth 20000 in
set_option maxHeartbeats 1000000 in
theorem journalElder_of (B : JOps) (a0 a1 : Int) (a2 : Option Addr) (len2 cap2 : Nat) (z2 : List Int) (w : World) (ht : Steps w) (f0 : (Lit.int .i64 a0).wf = true) (f1 : (Lit.int .i64 a1).wf = true) (f2 : IsRow .u16 w a2 len2 cap2 z2) :
    Calls Tryd.prog 6 #[.int .i64 a0, .int .i64 a1, .slice a2 len2 cap2] w fun x w' => x = .returned (.bool true) ∧ Below w.heap.size w w' := by
  obtain ⟨hU, hcap, hcm⟩ := U16s.ofRow f2
  obtain ⟨zs, hzs⟩ : ∃ zs, zs = (z2.take len2).map Int.toNat := ⟨_, rfl⟩
  rw [← hzs] at hU
  have HU : Hid (U16s w a2 len2 zs) := hU
  have HT : Hid (Steps w) := ht
  have HAW : Hid (∀ W, Below w.heap.size w W → Calls Tryd.prog 7 #[] W fun e w' => e = .returned (.bool true) ∧ Below W.heap.size W w') := fun W hW => awake7 B W (HT.out.below hW)
  have hmax : (len2 : Int) ≤ 9223372036854775807 := by unfold maxLen at hcm; omega
  obtain ⟨r, q, k, hr, hq, hk, hw1, hw2, hw3, hw4, hk1⟩ := pick20 8 (by decide) a0
  have HK1 : Hid (8 ≤ k ∧ k ≤ 27) := hk1
  have hk' : 8 + q = (k : Nat) := hk
  obtain ⟨r2, s, hr2, hs2, hv1, hv2, hv3, hs⟩ := pickK k (Nat.le_trans (by decide) hk1.1) (Nat.le_trans hk1.2 (by decide)) a1
  have HS : Hid (s < k) := hs
  have HP : Hid (a1.tmod (k : Nat) = r2 ∧ (r2 + (k : Nat)).tmod (k : Nat) = (s : Nat) ∧ wrap64 (r2 + (k : Nat)) = r2 + (k : Nat) ∧ wrap64 r2 = r2 ∧ wrap64 (s : Nat) = (s : Nat)) := ⟨hr2, hs2, hv1, hv2, hv3⟩
  have HNZ : Hid (¬ ((k : Nat) : Int) = 0 ∧ ¬ ((k : Nat) : Int) = -1) := by have := hk1.1; constructor <;> omega
  have HNEW : Hid (∀ (W : World) (L : Loc), IsDisk (fun i => i < w.heap.size) W L (freshSt k) → Calls Tryd.prog 9 #[.pointer (some ⟨L.b, 0, none⟩), .int .i64 0, .int .i64 (k : Nat), .int .i64 5, .int .i64 (s : Nat)] W fun x w' => ∃ p, x = .returned (.tuple #[.pointer (some ⟨p, 0, none⟩), .int .i64 0]) ∧ IsJ B.Head (fun i => i < w.heap.size) w' p L (freshSt k) (JS.fresh 0 k 5 s) ∧ W.heap.size ≤ p ∧ Below W.heap.size W w') := fun W L hD =>
    B.new _ W L (freshSt k) 0 k 5 s hD (Nat.le_trans (by decide) hk1.1) (Nat.le_trans hk1.2 (by decide)) (Nat.le_of_eq (Nat.zero_add k)) (by decide) (by decide) hs
  have HG0 : Hid (Goes (freshSt k) (JS.fresh 0 k 5 s) s [] 0) := Goes.new k 0 k 5 s (Nat.le_trans (by decide) hk1.1) (Nat.le_trans hk1.2 (by decide)) (Nat.le_of_eq (Nat.zero_add k)) (by decide) (by decide) hs
  clear ht f0 f1 f2 hU hk1 hzs hk hr2 hs2 hv1 hv2 hv3 hs
  by_cases hbig : (20 : Int) < (len2 : Nat)
  · go_enter Tryd.func6, Tryd.ntmps6
    go_wp2_with fail
    refine (HAW.out w (Below.refl _ _)).mono ?_
    rintro e w1 ⟨rfl, hb1⟩
    have HB1 : Hid (Below w.heap.size w w1) := hb1
    clear hb1
    go_wp2_with fail
    refine (HAW.out w1 HB1.out).mono ?_
    rintro e w2 ⟨rfl, hb2⟩
    have HB2 : Hid (Below w.heap.size w w2) := HB1.out.trans (hb2.mono HB1.out.size)
    clear hb2
    go_wp2
    go_ret
    exact ⟨rfl, HB2.out⟩
  go_enter Tryd.func6, Tryd.ntmps6
  go_wp2_with fail
  refine (HAW.out w (Below.refl _ _)).mono ?_
  rintro e w1 ⟨rfl, hb1⟩
  have HB1 : Hid (Below w.heap.size w w1) := hb1
  have hs1 : w.heap.size ≤ w1.heap.size := hb1.size
  clear hb1
  go_wp2_with fail
  rw [hw2]
  clear hr hq hk' hw1 hw2 hw3 hw4
  refine (new_v (fun i => i < w.heap.size) w1 k (by have := HK1.out; omega) (by have := HK1.out; omega) (fun i hi => by omega)).mono ?_
  rintro e w2 ⟨L, rfl, hD, hb2, _⟩
  have HD : Hid (IsDisk (fun i => i < w.heap.size) w2 L (freshSt k)) := hD
  have HK2 : Hid (Kept (fun i => i < w.heap.size) w w2) := (Kept.ofBelow HB1.out fun _ h => h).trans (Kept.ofBelow hb2 fun i hi => by omega)
  clear hD hb2
  obtain ⟨hr2, hs2, hv1, hv2, hv3⟩ := HP.out
  obtain ⟨hnz1, hnz2⟩ := HNZ.out
  go_wp2_with fail
  rw [hv1]
  clear hr2 hs2 hv1 hv2 hv3 hnz1 hnz2
  refine (HNEW.out w2 L HD.out).mono ?_
  rintro e w3 ⟨p, rfl, hJ, hp, hb3⟩
  have HJ3 : Hid (IsJ B.Head (fun i => i < w.heap.size) w3 p L (freshSt k) (JS.fresh 0 k 5 s)) := hJ
  have HK3 : Hid (Kept (fun i => i < w.heap.size) w w3) := HK2.out.trans (Kept.ofBelow hb3 fun i hi => Nat.lt_of_lt_of_le hi HK2.out.size)
  clear hJ hp hb3 HD HK2 HB1
  go_wp2_with fail
  go_loopw [12] (fun i wr => ∃ (j : Nat) (wv : Value) (S : St) (J : JS) (sure : List (List Nat)), j ≤ len2 ∧ i = .int .i64 j ∧ Hid (IsJ B.Head (fun i => i < w.heap.size) wr p { L with wv := wv } S J) ∧ Hid (Goes S J s sure j ∧ J.n = k ∧ J.epoch = 5 ∧ J.fr = 0) ∧ Hid (Kept (fun i => i < w.heap.size) w wr)) (fun i _ => len2 - (intOf i).toNat)
  case atStart => exact ⟨0, L.wv, _, _, _, by omega, rfl, HJ3.out, ⟨HG0.out, rfl, rfl, rfl⟩, HK3.out⟩
  case round =>
    clear HJ3 HK3 HG0 HNEW HP HNZ HS
    obtain ⟨j, wv, S, J, sure, hj, rfl, HJ, HG, HKP⟩ := hrel
    by_cases hlt : j < len2
    · obtain ⟨b, off, z, rfl, hb, hz, -, hat⟩ := HU.out.at hlt
      have hc : wr.cell? ⟨b, off + j, none⟩ = some (.int .u16 (z : Nat)) := (HKP.out.cell (p := ⟨b, off + j, none⟩) hb).trans hat
      have hlj : ((j : Nat) : Int) < (len2 : Nat) := by omega
      obtain ⟨g, m, t1, t4, t2, t3, t5, hm1, hm2⟩ := pick400 z hz
      have HM : Hid (1 ≤ m ∧ m ≤ 400) := ⟨hm1, hm2⟩
      have hmk := Tryd.makeN m (Nat.le_trans hm2 (by decide))
      have HZ : Hid ((1 ≤ (zl m).length ∧ (zl m).length ≤ 65000) ∧ ∀ z ∈ zl m, z < 256) := ⟨by rw [zl_length]; exact ⟨hm1, Nat.le_trans hm2 (by decide)⟩, zl_small _⟩
      have h100 : j ≤ 100 := by clear t1 t2 t3 t4 t5; omega
      obtain ⟨S', J', sure', c, hA, hG2, e1, e2, e3⟩ := HG.out.1.any (zl m) HZ.out
      have HG2 : Hid (Goes S' J' s sure' (j + 1) ∧ J'.n = k ∧ J'.epoch = 5 ∧ J'.fr = 0) := ⟨hG2, e1.trans HG.out.2.1, e2.trans HG.out.2.2.1, e3.trans HG.out.2.2.2⟩
      have HAP : Hid (Calls Tryd.prog 10 #[.pointer (some ⟨p, 0, none⟩), .slice (some ⟨wr.heap.size, 0, none⟩) m m] (wr.alloc (.cells (u8s (zl m)).toArray 5)) fun x w' => ∃ wv, x = .returned (.int .i64 (c : Nat)) ∧ IsJ B.Head (fun i => i < w.heap.size) w' p { L with wv := wv } S' J' ∧ Kept (fun i => i < w.heap.size) w w') := by
        have := append_made B (L := { L with wv := wv }) HJ.out HG.out.1 h100 HKP.out (StepsK.below HT.out) m (Nat.le_trans hm2 (by decide)) 0
        rw [hA] at this
        exact this
      clear t2 hm1 hm2 hA hG2 e1 e2 e3 h100 hat hz
      go_wp2_with fail
      clear t1 t3 t4 t5
      refine HAP.out.mono ?_
      rintro x w5 ⟨wv5, rfl, hJ5, hk5⟩
      have HJ5 : Hid (IsJ B.Head (fun i => i < w.heap.size) w5 p { L with wv := wv5 } S' J') := hJ5
      have HK5 : Hid (Kept (fun i => i < w.heap.size) w w5) := hk5
      clear hJ5 hk5 HAP hmk
      go_wp2
      go_roundw
      case rel => exact ⟨j + 1, wv5, S', J', _, by omega, by go_num, HJ5.out, HG2.out, HK5.out⟩
      case measure => simp [intOf]; omega
    · have hle : ¬ ((j : Nat) : Int) < (len2 : Nat) := by omega
      obtain ⟨hres, hcl⟩ := reset_clean HG.out.1 HG.out.2.2.1
      have hfr := HG.out.2.2.2
      have hjn := HG.out.2.1
      have HLS : Hid (S.left = -1 ∧ S.waits = []) := ⟨HG.out.1.left, (HG.out.1.inv.alive HG.out.1.dead).1⟩
      have HFIT : Hid (0 + k ≤ S.n) := by
        have := HG.out.1.inv.fit
        rw [hfr, hjn] at this
        exact this
      have HCL : Hid (∀ i, i < k → numAt (S.safe (0 + i)).l 1 ≠ ((6 : Nat) : Int)) := by rw [hfr, hjn] at hcl; exact hcl
      have HRS : Hid (Calls Tryd.prog 11 #[.pointer (some ⟨p, 0, none⟩)] wr fun x w' => x = .returned (.int .i64 0) ∧ IsJ B.Head (fun i => i < w.heap.size) w' p { L with wv := wv } S { J with epoch := 6, count := 0, used := 0, dirty := false } ∧ Kept (fun i => i < w.heap.size) wr w') := by
        have := B.reset _ wr p { L with wv := wv } S J HJ.out HG.out.1.inv.ring.e2
        rw [hres] at this
        exact this
      clear hres hcl hfr hjn
      go_wp2_with fail
      refine HRS.out.mono ?_
      rintro x w5 ⟨rfl, hJ5, hk5⟩
      have HJ5 : Hid (IsJ B.Head (fun i => i < w.heap.size) w5 p { L with wv := wv } S { J with epoch := 6, count := 0, used := 0, dirty := false }) := hJ5
      have HK5 : Hid (Kept (fun i => i < w.heap.size) w w5) := HKP.out.trans hk5
      clear hJ5 hk5 HRS HJ HKP
      go_wp2_with fail
      refine (B.epoch _ p L.b _ HJ5.out.1).mono ?_
      rintro x w6 ⟨rfl, hw6⟩
      rw [hw6]
      clear hw6
      have HD5 : Hid (IsDisk (fun i => i < w.heap.size) w5 { L with wv := wv } S) := HJ5.out.2.1.less fun i hi => .inl hi
      clear HJ5 HG
      go_wp2_with fail
      go_loopw [13] (fun i wr => ∃ (j : Nat), j ≤ k ∧ i = .int .i64 j ∧ Hid (IsDisk (fun i => i < w.heap.size) wr { L with wv := wv } S) ∧ Hid (Kept (fun i => i < w.heap.size) w wr)) (fun i _ => k - (intOf i).toNat)
      case atStart => exact ⟨0, by omega, rfl, HD5.out, HK5.out⟩
      case round =>
        clear HD5 HK5 hlt hle hj
        obtain ⟨j, hj, rfl, HD, HKP⟩ := hrel
        by_cases hlt : j < k
        · have hlj : ((j : Nat) : Int) < (k : Nat) := by omega
          obtain ⟨ho1, ho2⟩ := open_none (f := S.safe) (fr := 0) (n := k) (e := 6) (start := j) (by omega) hlt HCL.out
          have HOP : Hid (Calls Tryd.prog 16 #[.pointer (some ⟨L.b, 0, none⟩), .int .i64 0, .int .i64 (k : Nat), .int .i64 6, .int .i64 (j : Nat)] wr fun x w' => ∃ p lv, x = .returned (.tuple #[.pointer (some ⟨p, 0, none⟩), lv, .int .i64 0]) ∧ IsJ B.Head (fun i => i < w.heap.size) w' p { L with wv := wv } S (JS.fresh 0 k 6 j) ∧ wr.heap.size ≤ p ∧ OctRows w' lv [] ∧ Kept (fun i => i < w.heap.size) wr w') := by
            have := B.open_ _ wr { L with wv := wv } S 0 k 6 j HD.out (by have := HK1.out; omega) (by have := HK1.out; omega) HFIT.out (by decide) (by decide) hlt (by rw [HLS.out.1]; decide) ((StepsK.below HT.out).kept HKP.out)
            rw [see_safe HLS.out.2, spent_same HLS.out.1, ho1, ho2] at this
            exact this
          clear ho1 ho2
          go_wp2_with fail
          refine HOP.out.mono ?_
          rintro x w7 ⟨p2, lv, rfl, hJ7, hp7, hl7, hk7⟩
          obtain ⟨_, la, lc, hlv, _⟩ := hl7
          subst hlv
          have HJ7 : Hid (IsJ B.Head (fun i => i < w.heap.size) w7 p2 { L with wv := wv } S (JS.fresh 0 k 6 j)) := hJ7
          have HK7 : Hid (Kept (fun i => i < w.heap.size) w w7) := HKP.out.trans hk7
          clear hJ7 hp7 hk7 HOP
          go_wp2_with fail
          refine (B.used _ p2 L.b _ HJ7.out.1).mono ?_
          rintro x w8 ⟨rfl, hw8⟩
          rw [hw8]
          clear hw8
          go_wp2_with fail
          have HPL : Hid (Calls Tryd.prog 13 #[.pointer (some ⟨p2, 0, none⟩)] w7 fun x w' => x = .returned (.int .i64 (j : Nat)) ∧ w' = w7) := B.place _ p2 L.b _ HJ7.out.1
          refine HPL.out.mono ?_
          rintro x w9 ⟨rfl, hw9⟩
          rw [hw9]
          clear hw9
          have hk27 := HK1.out.2
          go_wp2
          go_roundw
          case rel => exact ⟨j + 1, by omega, by go_num, HJ7.out.2.1.less fun i hi => .inl hi, HK7.out⟩
          case measure => simp [intOf]; omega
        · have hle : ¬ ((j : Nat) : Int) < (k : Nat) := by omega
          go_wp2
          go_ret
          exact ⟨rfl, HKP.out.below fun i hi => hi⟩
end Go.Proofs.YthhdkadjlddmkaaDoor
