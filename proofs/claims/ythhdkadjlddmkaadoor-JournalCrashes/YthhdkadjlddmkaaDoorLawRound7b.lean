/- The law JournalRound over the bundle (written by mk_round7.py). -/
import Derived.Test.YthhdkadjlddmkaaDoorLawRound7
namespace Go.Proofs.YthhdkadjlddmkaaDoor
open Go.RowKit
set_option linter.unusedVariables false

theorem frozen_row {W : World} {b : Nat} {C : Array Value} {t : TypeId} (h : W.heap[b]? = some (.cells C t (0, 0))) (i : Nat) : W.frozen? ⟨b, i, none⟩ = false := by
  simp [World.frozen?, h]
theorem wpList_makeN {w : World} {ops : Array Oper} {rest : List Oper} {o : Oper} {a : Act} {Q : Exit → Act → World → Prop} (hg : o.guard = none) (l c : Operand) (hop : o.op = Op.makeSlice 32 l c)
    (n : Nat) (hn : n ≤ 100000) (hl : a.eval l = .int .i64 (n : Nat)) (hc : a.eval c = .int .i64 (n : Nat))
    (hK : wpList Tryd.prog ops Q rest (a.put o.dst (.slice (some ⟨w.heap.size, 0, none⟩) n n)) (w.alloc (.cells (u8s (zl n)).toArray 5))) : wpList Tryd.prog ops Q (o :: rest) a w := by
  refine wpList_plain hg fun K hK' => ?_
  unfold Oper.wp
  simp [execOp, hop, hl, hc, Tryd.makeN n hn w, Result.andThen]
  exact hK' _ _ hK
theorem Tryd.infoStr7 : (Tryd.prog.info? 9).map (fun i => (i.zero, i.size, i.bytes)) = some (some (.string ⟨#[]⟩), 1, 16) := by kernel_rfl
/-- An append, by the bundle, of octets whose block is among those kept. -/
theorem append_goes (B : JOps) {K : Nat → Prop} {w : World} {p : Nat} {L : Loc} {S : St} {J : JS} {start j g m : Nat} {sure : List (List Nat)} {zs : List Nat} (hJ : IsJ B.Head K w p L S J) (hG : Goes S J start sure j) (hj : j ≤ 100) (ho : Octs w (.slice (some ⟨g, 0, none⟩) m m) zs) (hg : K g) (hT : StepsK K w) {S' : St} {J' : JS} {c : Nat} (hA : appendR S J zs = (S', J', c)) :
    Calls Tryd.prog 10 #[.pointer (some ⟨p, 0, none⟩), .slice (some ⟨g, 0, none⟩) m m] w fun x w' => ∃ wv, x = .returned (.int .i64 (c : Nat)) ∧ IsJ B.Head K w' p { L with wv := wv } S' J' ∧ Kept K w w' := by
  have := B.append K w p L S J _ zs hJ hG.inv.ok ho (by rintro x n c e _; cases e; exact hg) (hG.waits hj).1 (hG.waits hj).2 hT
  rw [hA] at this
  exact this

set_option maxRecDepth 20000 in
set_option maxHeartbeats 1000000 in
theorem journalRound_of (B : JOps) (a0 : Int) (a1 : Option Addr) (len1 cap1 : Nat) (z1 : List Int) (w : World) (ht : Steps w) (f0 : (Lit.int .i64 a0).wf = true) (f1 : IsRow .u16 w a1 len1 cap1 z1) :
    Calls Tryd.prog 4 #[.int .i64 a0, .slice a1 len1 cap1] w fun x w' => x = .returned (.bool true) ∧ Below w.heap.size w w' := by
  obtain ⟨hU, hcap, hcm⟩ := U16s.ofRow f1
  obtain ⟨zs, hzs⟩ : ∃ zs, zs = (z1.take len1).map Int.toNat := ⟨_, rfl⟩
  rw [← hzs] at hU
  have HU : Hid (U16s w a1 len1 zs) := hU
  have HT : Hid (Steps w) := ht
  have HAW : Hid (∀ W, Below w.heap.size w W → Calls Tryd.prog 7 #[] W fun e w' => e = .returned (.bool true) ∧ Below W.heap.size W w') := fun W hW => awake7 B W (HT.out.below hW)
  have hmax : (len1 : Int) ≤ 9223372036854775807 := by unfold maxLen at hcm; omega
  obtain ⟨r, q, k, hr, hq, hk, hw1, hw2, hw3, hw4, hk1⟩ := pick20 12 (by decide) a0
  have HK1 : Hid (12 ≤ k ∧ k ≤ 31) := hk1
  have hk' : 12 + q = (k : Nat) := hk
  have HNEW : Hid (∀ (W : World) (L : Loc), IsDisk (fun i => i < w.heap.size) W L (freshSt k) → Calls Tryd.prog 9 #[.pointer (some ⟨L.b, 0, none⟩), .int .i64 0, .int .i64 (k : Nat), .int .i64 1, .int .i64 0] W fun x w' => ∃ p, x = .returned (.tuple #[.pointer (some ⟨p, 0, none⟩), .int .i64 0]) ∧ IsJ B.Head (fun i => i < w.heap.size) w' p L (freshSt k) (JS.fresh 0 k 1 0) ∧ W.heap.size ≤ p ∧ Below W.heap.size W w') := fun W L hD =>
    B.new _ W L (freshSt k) 0 k 1 0 hD (Nat.le_trans (by decide) hk1.1) (Nat.le_trans hk1.2 (by decide)) (Nat.le_of_eq (Nat.zero_add k)) (by decide) (by decide) (Nat.lt_of_lt_of_le (by decide) hk1.1)
  have HG0 : Hid (Goes (freshSt k) (JS.fresh 0 k 1 0) 0 [] 0) := Goes.new k 0 k 1 0 (Nat.le_trans (by decide) hk1.1) (Nat.le_trans hk1.2 (by decide)) (Nat.le_of_eq (Nat.zero_add k)) (by decide) (by decide) (Nat.lt_of_lt_of_le (by decide) hk1.1)
  clear ht f0 f1 hU hk1 hzs hk
  by_cases hbig : (30 : Int) < (len1 : Nat)
  · go_enter Tryd.func4, Tryd.ntmps4
    go_wp2_with fail
    refine (HAW.out w (Below.refl _ _)).mono ?_
    rintro e w1 ⟨rfl, hb1⟩
    have HB1 : Hid (Below w.heap.size w w1) := hb1
    clear hb1
    go_wp2_with fail
    refine (HAW.out w1 HB1.out).mono ?_
    rintro e w2 ⟨rfl, hb2⟩
    have HB2 : Hid (Below w.heap.size w w2) := HB1.out.trans (hb2.mono HB1.out.size)
    clear hb2
    go_wp2
    go_ret
    exact ⟨rfl, HB2.out⟩
  go_enter Tryd.func4, Tryd.ntmps4
  go_wp2_with fail
  refine (HAW.out w (Below.refl _ _)).mono ?_
  rintro e w1 ⟨rfl, hb1⟩
  have HB1 : Hid (Below w.heap.size w w1) := hb1
  have hs1 : w.heap.size ≤ w1.heap.size := hb1.size
  clear hb1
  go_wp2_with fail
  rw [hw2]
  clear hr hq hk' hw1 hw2 hw3 hw4
  refine (new_v (fun i => i < w.heap.size) w1 k (by have := HK1.out; omega) (by have := HK1.out; omega) (fun i hi => by omega)).mono ?_
  rintro e w2 ⟨L, rfl, hD, hb2, _⟩
  have HD : Hid (IsDisk (fun i => i < w.heap.size) w2 L (freshSt k)) := hD
  have HK2 : Hid (Kept (fun i => i < w.heap.size) w w2) := (Kept.ofBelow HB1.out fun _ h => h).trans (Kept.ofBelow hb2 fun i hi => by omega)
  clear hD hb2
  go_wp2_with fail
  refine (HNEW.out w2 L HD.out).mono ?_
  rintro e w3 ⟨p, rfl, hJ, hp, hb3⟩
  have HJ3 : Hid (IsJ B.Head (fun i => i < w.heap.size ∨ (Value.slice none 0 0).ownBlock = some i) w3 p L (freshSt k) (JS.fresh 0 k 1 0)) := by
    have e : (fun i => i < w.heap.size ∨ (Value.slice none 0 0).ownBlock = some i) = fun i => i < w.heap.size := by funext i; simp [Value.ownBlock]
    unfold Hid
    rw [e]; exact hJ
  have HK3 : Hid (Kept (fun i => i < w.heap.size) w w3) := HK2.out.trans (Kept.ofBelow hb3 fun i hi => Nat.lt_of_lt_of_le hi HK2.out.size)
  clear hJ hp hb3 HD HK2 HB1
  go_wp2_with fail
  go_loopw [10, 11, 12, 13] (fun sv ev tv i wr => ∃ (j : Nat) (wv : Value) (S : St) (J : JS) (start e : Nat) (sure : List (List Nat)), j ≤ len1 ∧ i = .int .i64 j ∧ ev = .int .i64 (e : Nat) ∧ tv = .int .i64 (start : Nat) ∧ Hid (IsJ B.Head (fun i => i < w.heap.size ∨ sv.ownBlock = some i) wr p { L with wv := wv } S J) ∧ Hid (Goes S J start sure (2 * j) ∧ J.n = k ∧ J.epoch = e ∧ J.fr = 0 ∧ e ≤ 1 + j) ∧ Hid (wr.ownsRow w.heap.size 9 1 sv sure.length (strVs sure)) ∧ Hid (sure.length ≤ j) ∧ Hid (Kept (fun i => i < w.heap.size) w wr)) (fun _ _ _ i _ => len1 - (intOf i).toNat)
  case atStart => exact ⟨0, L.wv, _, _, 0, 1, [], by omega, rfl, rfl, rfl, HJ3.out, ⟨HG0.out, rfl, rfl, rfl, by omega⟩, World.ownsRow_nil _ _ _ _, Nat.le_refl _, HK3.out⟩
  case round =>
    clear HJ3 HK3 HG0 HNEW
    obtain ⟨j, wv, S, J, start, e, sure, hj, rfl, rfl, rfl, HJ, HG, HOW, HSL, HKP⟩ := hrel
    by_cases hlt : j < len1
    · obtain ⟨b, off, z, rfl, hb, hz, -, hat⟩ := HU.out.at hlt
      have hc : wr.cell? ⟨b, off + j, none⟩ = some (.int .u16 (z : Nat)) := (HKP.out.cell (p := ⟨b, off + j, none⟩) hb).trans hat
      have hlj : ((j : Nat) : Int) < (len1 : Nat) := by omega
      have hj30 : j < 30 := by omega
      obtain ⟨g, m, t1, t4, t3, t5, hm1, hm2⟩ := pick600 z hz
      have HM : Hid (1 ≤ m ∧ m ≤ 600) := ⟨hm1, hm2⟩
      have HTT : Hid ((wrap64 (z : Nat)).tmod 600 = (g : Nat) ∧ 1 + ((g : Nat) : Int) = (m : Nat) ∧ wrap64 (g : Nat) = (g : Nat) ∧ wrap64 (m : Nat) = (m : Nat)) := ⟨t1, t4, t3, t5⟩
      clear t1 t3 t4 t5
      have HMK : Hid (∀ W : World, (Instr.makeSlice 32 (.int .i64 (m : Nat)) (.int .i64 (m : Nat))).run Tryd.prog W = .ok (.slice (some ⟨W.heap.size, 0, none⟩) m m) (W.alloc (.cells (u8s (zl m)).toArray 5))) := Tryd.makeN m (Nat.le_trans hm2 (by decide))
      have hwj : IntKind.u8.wrap ((j : Nat) : Int) = (j : Nat) := by rw [IntKind.wrap_u8]; omega
      have HWJ : Hid (IntKind.u8.wrap ((j : Nat) : Int) = (j : Nat)) := hwj
      have HM0 : Hid ((0 : Int) < (m : Nat)) := by unfold Hid; omega
      clear hwj
      -- the octets that are appended
      obtain ⟨ys, hys⟩ : ∃ ys, ys = j :: zl (m - 1) := ⟨_, rfl⟩
      have hyl : ys.length = m := by rw [hys, List.length_cons, zl_length]; omega
      have hys2 : ∀ z ∈ ys, z < 256 := by
        intro z hz; rw [hys] at hz
        rcases List.mem_cons.1 hz with h | h
        · rw [h]; omega
        · exact zl_small _ z h
      have HZ : Hid ((1 ≤ ys.length ∧ ys.length ≤ 65000) ∧ ∀ z ∈ ys, z < 256) := ⟨by rw [hyl]; exact ⟨hm1, Nat.le_trans hm2 (by decide)⟩, hys2⟩
      -- the block of them
      obtain ⟨X, hX⟩ : ∃ X, X = wr.heap.size := ⟨_, rfl⟩
      have HSET : Hid ((u8s (zl m)).set 0 (.int .u8 (j : Nat)) = u8s ys) := by
        unfold Hid
        rw [hys]
        obtain ⟨i, rfl⟩ : ∃ i, m = i + 1 := ⟨m - 1, by omega⟩
        rfl
      obtain ⟨W2, hW2⟩ : ∃ W2, W2 = wr.alloc (.cells (u8s ys).toArray 5) := ⟨_, rfl⟩
      have hX2 : W2.heap[X]? = some (.cells (u8s ys).toArray 5 (0, 0)) := by rw [hW2, hX]; exact heap_alloc_new wr _
      have HO2 : Hid (Octs W2 (.slice (some ⟨X, 0, none⟩) m m) ys) := octs_whole hX2 hys2 hyl (Nat.le_trans hm2 (by decide))
      have hJ2 : IsJ B.Head (fun i => (i < w.heap.size ∨ u10.ownBlock = some i) ∨ i = X) W2 p { L with wv := wv } S J := by
        rw [hW2, hX]
        exact HJ.out.with _
      have HJ2 : Hid (IsJ B.Head (fun i => (i < w.heap.size ∨ u10.ownBlock = some i) ∨ i = X) W2 p { L with wv := wv } S J) := hJ2
      have hXw : w.heap.size ≤ X := by rw [hX]; exact HKP.out.size
      have hKa : Kept (fun i => i < w.heap.size ∨ u10.ownBlock = some i) wr W2 := by
        rw [hW2]
        exact (Kept.refl _ wr).alloc (fun i hi => HJ.out.2.1.kl i (.inl hi)) _
      have HK2 : Hid (Kept (fun i => i < w.heap.size) w W2) := HKP.out.trans (hKa.mono fun i hi => .inl hi)
      have HOW2 : Hid (W2.ownsRow w.heap.size 9 1 u10 sure.length (strVs sure)) := ownsRow_same HOW.out fun g hg => hKa.block g (.inr hg)
      have HX2 : Hid (W2.heap[X]? = some (.cells (u8s ys).toArray 5 (0, 0))) := hX2
      have HT2 : Hid (∀ W, Kept (fun i => i < w.heap.size) w W → StepsK (fun i => (i < w.heap.size ∨ u10.ownBlock = some i) ∨ i = X) W) := fun W hW => ((StepsK.below HT.out).kept hW).more fun i hi => .inl (.inl hi)
      have HXW : Hid (w.heap.size ≤ X ∧ u10.ownBlock ≠ some X) := ⟨hXw, fun e => by have := HJ.out.2.1.kl X (.inl (.inr e)); omega⟩
      have HW2 : Hid (W2 = wr.alloc (.cells (u8s ys).toArray 5)) := hW2
      have HYS : Hid (Octets ys) := hys2
      have HXE : Hid (X = wr.heap.size) := hX
      have HFB : Hid (fitsB J (m : Nat) = decide (partsN ys.length + 1 ≤ J.n - J.used)) := by unfold Hid; rw [hyl]; exact fitsB_eq hm1 (Nat.le_trans hm2 (by decide))
      have HPN : Hid (partsN ys.length + 1 ≤ 8) := by unfold Hid; rw [hyl]; unfold partsN; omega
      have HYM : Hid (ys.length = m) := hyl
      have HFR0 : Hid ((wr.alloc (.cells (u8s (zl m)).toArray 5)).frozen? ⟨wr.heap.size, 0, none⟩ = false) := frozen_row (heap_alloc_new wr _) 0
      have HCL0 : Hid ((wr.alloc (.cells (u8s (zl m)).toArray 5)).cell? ⟨wr.heap.size, 0, none⟩ = some (.int .u8 0)) := by
        unfold Hid
        rw [cell_of_row _ _ _ _ _ _ (heap_alloc_new wr _)]
        obtain ⟨i, rfl⟩ : ∃ i, m = i + 1 := ⟨m - 1, by omega⟩
        rfl
      clear hat hz hys hyl hys2 hX hW2 hX2 hJ2 hXw hKa hm2
      clear hm1
      have hwj := HWJ.out
      have hm0 := HM0.out
      have hfr0 := HFR0.out
      have hcl0 := HCL0.out
      go_wp2_with (at_make; refine wpList_makeN rfl _ _ rfl m (Nat.le_trans HM.out.2 (by decide)) ?hl ?hc ?_)
      case hl => obtain ⟨t1, t4, t3, t5⟩ := HTT.out; simp [Act.eval, t1, t4, t5]
      case hc => obtain ⟨t1, t4, t3, t5⟩ := HTT.out; simp [Act.eval, t1, t4, t5]
      clear hwj hm0 hfr0 hcl0
      rw [HSET.out, ← HW2.out]
      have HLIFT : Hid (∀ n, Octs (W2.drewN n) (.slice (some ⟨X, 0, none⟩) m m) ys ∧ IsJ B.Head (fun i => (i < w.heap.size ∨ u10.ownBlock = some i) ∨ i = X) (W2.drewN n) p { L with wv := wv } S J ∧ Kept (fun i => i < w.heap.size) w (W2.drewN n) ∧ (W2.drewN n).ownsRow w.heap.size 9 1 u10 sure.length (strVs sure) ∧ (W2.drewN n).heap[X]? = some (.cells (u8s ys).toArray 5 (0, 0))) := fun n =>
        ⟨HO2.out.kept (below_drewN7 W2 n), HJ2.out.below (below_drewN7 W2 n), HK2.out.trans ⟨rfl, rfl, rfl, Nat.le_refl _, fun _ _ => rfl⟩, ownsRow_same HOW2.out fun g hg => rfl, HX2.out⟩
      by_cases hfit : partsN ys.length + 1 ≤ J.n - J.used
      · have HFT : Hid (Calls Tryd.prog 17 #[.pointer (some ⟨p, 0, none⟩), .int .i64 (m : Nat)] W2 fun x w' => x = .returned (.bool true) ∧ ∃ m, w' = W2.drewN m) := by
          have := B.fits W2 p L.b J (m : Nat) HJ2.out.1 HG.out.1.inv.ring.room HG.out.1.inv.ring.n2 (by omega) (by have := HM.out; omega)
          rw [HFB.out, decide_eq_true hfit] at this
          exact this
        refine HFT.out.mono ?_
        rintro x w5 ⟨rfl, nq5, hw5⟩
        obtain ⟨o2, j2, k2, ow2, x2⟩ := HLIFT.out nq5
        rw [← hw5] at o2 j2 k2 ow2 x2
        clear hw5 HO2 HJ2 HK2 HOW2 HX2 HLIFT HW2 nq5
        have HO2 : Hid (Octs w5 (.slice (some ⟨X, 0, none⟩) m m) ys) := o2
        have HJ2 : Hid (IsJ B.Head (fun i => (i < w.heap.size ∨ u10.ownBlock = some i) ∨ i = X) w5 p { L with wv := wv } S J) := j2
        have HK2 : Hid (Kept (fun i => i < w.heap.size) w w5) := k2
        have HOW2 : Hid (w5.ownsRow w.heap.size 9 1 u10 sure.length (strVs sure)) := ow2
        have HX2 : Hid (w5.heap[X]? = some (.cells (u8s ys).toArray 5 (0, 0))) := x2
        clear o2 j2 k2 ow2 x2
        have HJb := HJ2
        have HGb : Hid (Goes S J start sure (2 * j)) := HG.out.1
        have HOb := HO2
        have HKb := HK2
        have HOWb := HOW2
        have HXb := HX2
        have HROOM : Hid (partsN ys.length + 1 ≤ J.n - J.used) := hfit
        clear HFT hfit
        obtain ⟨S', hA, hG2⟩ := HGb.out.on ys HZ.out HROOM.out
        have HG2 : Hid (Goes S' (J.after (partsN ys.length + 1)) start (sure ++ [ys]) (2 * (j + 1)) ∧ (J.after (partsN ys.length + 1)).n = k ∧ (J.after (partsN ys.length + 1)).epoch = e ∧ (J.after (partsN ys.length + 1)).fr = 0 ∧ e ≤ 1 + (j + 1)) := ⟨hG2.mono (by omega), HG.out.2.1, HG.out.2.2.1, HG.out.2.2.2.1, by have := HG.out.2.2.2.2; omega⟩
        have HAP : Hid (Calls Tryd.prog 10 #[.pointer (some ⟨p, 0, none⟩), .slice (some ⟨X, 0, none⟩) m m] w5 fun x w' => ∃ wv, x = .returned (.int .i64 0) ∧ IsJ B.Head (fun i => (i < w.heap.size ∨ u10.ownBlock = some i) ∨ i = X) w' p { L with wv := wv } S' (J.after (partsN ys.length + 1)) ∧ Kept (fun i => (i < w.heap.size ∨ u10.ownBlock = some i) ∨ i = X) w5 w') := append_goes B HJb.out HGb.out (by omega) HOb.out (.inr rfl) (HT2.out _ HKb.out) hA
        clear hA hG2
        go_wp2_with fail
        try rw [← HXE.out]
        refine HAP.out.mono ?_
        rintro x W5 ⟨wv5, rfl, hJ5, hk5⟩
        have HJ5 : Hid (IsJ B.Head (fun i => i < w.heap.size ∨ (u10).ownBlock = some i) W5 p { L with wv := wv5 } S' (J.after (partsN ys.length + 1))) := hJ5.less fun i hi => .inl hi
        have HK5 : Hid (Kept (fun i => i < w.heap.size) w W5) := HKb.out.trans (hk5.mono fun i hi => .inl (.inl hi))
        have HOW5 : Hid (W5.ownsRow w.heap.size 9 1 (u10) (sure : List (List Nat)).length (strVs sure)) := ownsRow_same HOWb.out fun g hg => hk5.block g (by first | exact .inl (.inr hg) | (simp [Value.ownBlock] at hg))
        have hO5 : Octs W5 (.slice (some ⟨X, 0, none⟩) m m) ys := octs_whole ((hk5.block X (.inr rfl)).trans HXb.out) HYS.out HYM.out (Nat.le_trans HM.out.2 (by decide))
        have hcv : (convert 32 9 (.slice (some ⟨X, 0, none⟩) m m)).run Tryd.prog W5 = .ok (.string (strN ys)) W5 := conv_octs hO5 _ 5 _ Tryd.underlying32 Tryd.underlying5 Tryd.underlying9
        clear hJ5 hk5 hO5 HAP
        generalize hty : strN ys = ty at *
        have HTY : Hid (strN ys = ty) := hty
        clear hty
        obtain ⟨i0, hi, hz0, hz1, hz2⟩ := info_parts Tryd.infoStr7
        have hW5s : w.heap.size ≤ W5.heap.size := HK5.out.size
        have HSL2 : Hid ((sure : List (List Nat)).length ≤ 30) := by unfold Hid; first | (have := HSL.out; omega) | simp
        go_wp2_with (at_builtin; refine wpList_append_own_at _ rfl _ _ 31 rfl w.heap.size 9 i0 _ 1 16 Tryd.underlying31 hi hz0 hz1 hz2 rfl (by decide) (u10) (sure : List (List Nat)).length (strVs sure) rfl (HOW5.out.alloc _) _ 1 1 [.string ty] rfl rfl (cell_one_new _ _ _) ?c2 ?c3 ?c4 ?c5 ?_)
        case c2 => intro u hu; simp at hu; subst hu; rfl
        case c3 => have := HSL2.out; unfold maxLen; omega
        case c4 => have := HSL2.out; omega
        case c5 => simp; omega
        intro v7 W7 hown7 hg7 _ hat7
        have HJ7 : Hid (IsJ B.Head (fun i => i < w.heap.size ∨ v7.ownBlock = some i) W7 p { L with wv := wv5 } S' (J.after (partsN ys.length + 1))) := (HJ5.out.alloc _).grew hg7 (by rw [World.size_alloc]; exact hat7) fun g hg => (hown7.lt g hg).2
        have HK7 : Hid (Kept (fun i => i < w.heap.size) w W7) := (HK5.out.alloc (fun i hi => Nat.lt_of_lt_of_le hi hW5s) _).grown hg7 fun i hi => ⟨by simp; omega, fun e => by have := (HOW5.out.lt i e).1; omega⟩
        have HOW7 : Hid (W7.ownsRow w.heap.size 9 1 v7 (sure ++ [ys]).length (strVs (sure ++ [ys]))) := by
          unfold Hid
          rw [strVs_app, List.length_append]
          have : strVs [ys] = [.string ty] := by show [Value.string (strN ys)] = _; rw [HTY.out]
          rw [this]
          exact hown7
        have HSL7 : Hid ((sure ++ [ys]).length ≤ j + 1) := by unfold Hid; rw [List.length_append]; first | (have := HSL.out; simp; omega) | simp
        clear hown7 hg7 hat7 hcv
        go_wp2
        go_roundw
        case rel => exact ⟨j + 1, wv5, S', _, start, e, _, by omega, by go_num, rfl, rfl, HJ7.out, HG2.out, HOW7.out, HSL7.out, HK7.out⟩
        case measure => simp [intOf]; omega
      · have HFT : Hid (Calls Tryd.prog 17 #[.pointer (some ⟨p, 0, none⟩), .int .i64 (m : Nat)] W2 fun x w' => x = .returned (.bool false) ∧ ∃ m, w' = W2.drewN m) := by
          have := B.fits W2 p L.b J (m : Nat) HJ2.out.1 HG.out.1.inv.ring.room HG.out.1.inv.ring.n2 (by omega) (by have := HM.out; omega)
          rw [HFB.out, decide_eq_false hfit] at this
          exact this
        refine HFT.out.mono ?_
        rintro x w5 ⟨rfl, nq5, hw5⟩
        obtain ⟨o2, j2, k2, ow2, x2⟩ := HLIFT.out nq5
        rw [← hw5] at o2 j2 k2 ow2 x2
        clear hw5 HO2 HJ2 HK2 HOW2 HX2 HLIFT HW2 nq5
        have HO2 : Hid (Octs w5 (.slice (some ⟨X, 0, none⟩) m m) ys) := o2
        have HJ2 : Hid (IsJ B.Head (fun i => (i < w.heap.size ∨ u10.ownBlock = some i) ∨ i = X) w5 p { L with wv := wv } S J) := j2
        have HK2 : Hid (Kept (fun i => i < w.heap.size) w w5) := k2
        have HOW2 : Hid (w5.ownsRow w.heap.size 9 1 u10 sure.length (strVs sure)) := ow2
        have HX2 : Hid (w5.heap[X]? = some (.cells (u8s ys).toArray 5 (0, 0))) := x2
        clear o2 j2 k2 ow2 x2
        have HA0 : Hid (appendR S J ys = (S, J, 11)) := appendR_log HG.out.1.dead HG.out.1.dirty HZ.out.1 (by omega)
        clear HFT hfit
        have HAL : Hid (Calls Tryd.prog 10 #[.pointer (some ⟨p, 0, none⟩), .slice (some ⟨X, 0, none⟩) m m] w5 fun x w' => ∃ wv, x = .returned (.int .i64 11) ∧ IsJ B.Head (fun i => (i < w.heap.size ∨ u10.ownBlock = some i) ∨ i = X) w' p { L with wv := wv } S J ∧ Kept (fun i => (i < w.heap.size ∨ u10.ownBlock = some i) ∨ i = X) w5 w') := append_goes B HJ2.out HG.out.1 (by omega) HO2.out (.inr rfl) (HT2.out _ HK2.out) HA0.out
        go_wp2_with fail
        rw [← HXE.out]
        refine HAL.out.mono ?_
        rintro x W3 ⟨wv3, rfl, hJ3, hk3⟩
        have HJ3 : Hid (IsJ B.Head (fun i => (i < w.heap.size ∨ u10.ownBlock = some i) ∨ i = X) W3 p { L with wv := wv3 } S J) := hJ3
        have HK3 : Hid (Kept (fun i => i < w.heap.size) w W3) := HK2.out.trans (hk3.mono fun i hi => .inl (.inl hi))
        have HX3 : Hid (W3.heap[X]? = some (.cells (u8s ys).toArray 5 (0, 0))) := (hk3.block X (.inr rfl)).trans HX2.out
        clear hJ3 hk3 HAL
        obtain ⟨J', hR, hG', e1, e2, e3, e4, e5⟩ := HG.out.1.reset (by have := HG.out.2.2.2.2; have := HG.out.2.2.1; omega)
        have HRS : Hid (Calls Tryd.prog 11 #[.pointer (some ⟨p, 0, none⟩)] W3 fun x w' => x = .returned (.int .i64 0) ∧ IsJ B.Head (fun i => (i < w.heap.size ∨ u10.ownBlock = some i) ∨ i = X) w' p { L with wv := wv3 } S J' ∧ Kept (fun i => (i < w.heap.size ∨ u10.ownBlock = some i) ∨ i = X) W3 w') := by
          have := B.reset _ W3 p { L with wv := wv3 } S J HJ3.out HG.out.1.inv.ring.e2
          rw [hR] at this
          exact this
        obtain ⟨st, hst⟩ : ∃ st, st = J.place := ⟨_, rfl⟩
        rw [← hst] at hG' e4
        have HG1 : Hid (Goes S J' st [] (2 * j) ∧ J'.n = k ∧ J'.epoch = e + 1 ∧ J'.fr = 0 ∧ J'.place = st ∧ J'.used = 0) := ⟨hG', e1.trans HG.out.2.1, by rw [e2, HG.out.2.2.1], e3.trans HG.out.2.2.2.1, e4, e5⟩
        have HEL : Hid (e ≤ 1 + j) := HG.out.2.2.2.2
        clear hR hG' e1 e2 e3 e4 e5 hst
        go_wp2_with fail
        refine HRS.out.mono ?_
        rintro x W4 ⟨rfl, hJ4, hk4⟩
        have HJ4 : Hid (IsJ B.Head (fun i => (i < w.heap.size ∨ u10.ownBlock = some i) ∨ i = X) W4 p { L with wv := wv3 } S J') := hJ4
        have HK4 : Hid (Kept (fun i => i < w.heap.size) w W4) := HK3.out.trans (hk4.mono fun i hi => .inl (.inl hi))
        have HX4 : Hid (W4.heap[X]? = some (.cells (u8s ys).toArray 5 (0, 0))) := (hk4.block X (.inr rfl)).trans HX3.out
        clear hJ4 hk4 HRS
        obtain ⟨e', he'⟩ : ∃ e', e' = e + 1 := ⟨_, rfl⟩
        have HE : Hid (e' = e + 1) := he'
        clear he'
        have HQE : Hid (∀ n, Calls Tryd.prog 12 #[.pointer (some ⟨p, 0, none⟩)] (W4.drewN n) fun x w' => x = .returned (.int .i64 (e' : Nat)) ∧ w' = W4.drewN n) := fun n => by
          have := B.epoch (W4.drewN n) p L.b J' (B.same HJ4.out.1 rfl)
          rw [HG1.out.2.2.1, ← HE.out] at this
          exact this
        have HQP : Hid (∀ n, Calls Tryd.prog 13 #[.pointer (some ⟨p, 0, none⟩)] (W4.drewN n) fun x w' => x = .returned (.int .i64 (st : Nat)) ∧ w' = W4.drewN n) := fun n => by
          have := B.place (W4.drewN n) p L.b J' (B.same HJ4.out.1 rfl)
          rw [HG1.out.2.2.2.2.1] at this
          exact this
        go_wp2_with fail
        obtain ⟨nq, hnq⟩ : ∃ n, W4.drewN 0 = W4.drewN n := ⟨0, rfl⟩
        refine (HQE.out 0).mono ?_
        rintro x wq ⟨rfl, hwq⟩
        rw [hwq, hnq]
        clear hwq wq hnq
        go_wp2_with fail
        refine (HQP.out nq).mono ?_
        rintro x wq ⟨rfl, hwq⟩
        rw [hwq]
        clear hwq wq
        have HJb : Hid (IsJ B.Head (fun i => (i < w.heap.size ∨ u10.ownBlock = some i) ∨ i = X) (W4.drewN nq) p { L with wv := wv3 } S J') := HJ4.out.below (below_drewN7 W4 _)
        have HKb : Hid (Kept (fun i => i < w.heap.size) w (W4.drewN nq)) := HK4.out.trans (Kept.ofBelow (below_drewN7 W4 _) fun i hi => Nat.lt_of_lt_of_le hi HK4.out.size)
        have HXb : Hid ((W4.drewN nq).heap[X]? = some (.cells (u8s ys).toArray 5 (0, 0))) := HX4.out
        have HOb : Hid (Octs (W4.drewN nq) (.slice (some ⟨X, 0, none⟩) m m) ys) := octs_whole HXb.out HYS.out HYM.out (Nat.le_trans HM.out.2 (by decide))
        have HOWb : Hid ((W4.drewN nq).ownsRow w.heap.size 9 1 (.slice none 0 0) ([] : List (List Nat)).length (strVs [])) := World.ownsRow_nil _ _ _ _
        have HGb : Hid (Goes S J' st [] (2 * j)) := HG1.out.1
        have HROOM : Hid (partsN ys.length + 1 ≤ J'.n - J'.used) := by
          unfold Hid
          rw [HG1.out.2.2.2.2.2, HG1.out.2.1]
          have := HK1.out
          have := HPN.out
          omega
        generalize W4.drewN nq = W4d at *
        obtain ⟨S', hA, hG2⟩ := HGb.out.on ys HZ.out HROOM.out
        have HG2 : Hid (Goes S' (J'.after (partsN ys.length + 1)) st ([] ++ [ys]) (2 * (j + 1)) ∧ (J'.after (partsN ys.length + 1)).n = k ∧ (J'.after (partsN ys.length + 1)).epoch = e' ∧ (J'.after (partsN ys.length + 1)).fr = 0 ∧ e' ≤ 1 + (j + 1)) := ⟨hG2.mono (by omega), HG1.out.2.1, HG1.out.2.2.1.trans HE.out.symm, HG1.out.2.2.2.1, by have := HEL.out; have := HE.out; omega⟩
        have HAP : Hid (Calls Tryd.prog 10 #[.pointer (some ⟨p, 0, none⟩), .slice (some ⟨X, 0, none⟩) m m] W4d fun x w' => ∃ wv, x = .returned (.int .i64 0) ∧ IsJ B.Head (fun i => (i < w.heap.size ∨ u10.ownBlock = some i) ∨ i = X) w' p { L with wv := wv } S' (J'.after (partsN ys.length + 1)) ∧ Kept (fun i => (i < w.heap.size ∨ u10.ownBlock = some i) ∨ i = X) W4d w') := append_goes B HJb.out HGb.out (by omega) HOb.out (.inr rfl) (HT2.out _ HKb.out) hA
        clear hA hG2
        go_wp2_with fail
        try rw [← HXE.out]
        refine HAP.out.mono ?_
        rintro x W5 ⟨wv5, rfl, hJ5, hk5⟩
        have HJ5 : Hid (IsJ B.Head (fun i => i < w.heap.size ∨ (Value.slice none 0 0).ownBlock = some i) W5 p { L with wv := wv5 } S' (J'.after (partsN ys.length + 1))) := hJ5.less (fun i hi => hi.elim (fun h => .inl (.inl h)) (fun h => (by simp [Value.ownBlock] at h)))
        have HK5 : Hid (Kept (fun i => i < w.heap.size) w W5) := HKb.out.trans (hk5.mono fun i hi => .inl (.inl hi))
        have HOW5 : Hid (W5.ownsRow w.heap.size 9 1 (Value.slice none 0 0) ([] : List (List Nat)).length (strVs [])) := ownsRow_same HOWb.out fun g hg => hk5.block g (by first | exact .inl (.inr hg) | (simp [Value.ownBlock] at hg))
        have hO5 : Octs W5 (.slice (some ⟨X, 0, none⟩) m m) ys := octs_whole ((hk5.block X (.inr rfl)).trans HXb.out) HYS.out HYM.out (Nat.le_trans HM.out.2 (by decide))
        have hcv : (convert 32 9 (.slice (some ⟨X, 0, none⟩) m m)).run Tryd.prog W5 = .ok (.string (strN ys)) W5 := conv_octs hO5 _ 5 _ Tryd.underlying32 Tryd.underlying5 Tryd.underlying9
        clear hJ5 hk5 hO5 HAP
        generalize hty : strN ys = ty at *
        have HTY : Hid (strN ys = ty) := hty
        clear hty
        obtain ⟨i0, hi, hz0, hz1, hz2⟩ := info_parts Tryd.infoStr7
        have hW5s : w.heap.size ≤ W5.heap.size := HK5.out.size
        have HSL2 : Hid (([] : List (List Nat)).length ≤ 30) := by unfold Hid; first | (have := HSL.out; omega) | simp
        go_wp2_with (at_builtin; refine wpList_append_own_at _ rfl _ _ 31 rfl w.heap.size 9 i0 _ 1 16 Tryd.underlying31 hi hz0 hz1 hz2 rfl (by decide) (Value.slice none 0 0) ([] : List (List Nat)).length (strVs []) rfl (HOW5.out.alloc _) _ 1 1 [.string ty] rfl rfl (cell_one_new _ _ _) ?c2 ?c3 ?c4 ?c5 ?_)
        case c2 => intro u hu; simp at hu; subst hu; rfl
        case c3 => have := HSL2.out; unfold maxLen; omega
        case c4 => have := HSL2.out; omega
        case c5 => simp; omega
        intro v7 W7 hown7 hg7 _ hat7
        have HJ7 : Hid (IsJ B.Head (fun i => i < w.heap.size ∨ v7.ownBlock = some i) W7 p { L with wv := wv5 } S' (J'.after (partsN ys.length + 1))) := (HJ5.out.alloc _).grew hg7 (by rw [World.size_alloc]; exact hat7) fun g hg => (hown7.lt g hg).2
        have HK7 : Hid (Kept (fun i => i < w.heap.size) w W7) := (HK5.out.alloc (fun i hi => Nat.lt_of_lt_of_le hi hW5s) _).grown hg7 fun i hi => ⟨by simp; omega, fun e => by have := (HOW5.out.lt i e).1; omega⟩
        have HOW7 : Hid (W7.ownsRow w.heap.size 9 1 v7 ([] ++ [ys]).length (strVs ([] ++ [ys]))) := by
          unfold Hid
          rw [strVs_app, List.length_append]
          have : strVs [ys] = [.string ty] := by show [Value.string (strN ys)] = _; rw [HTY.out]
          rw [this]
          exact hown7
        have HSL7 : Hid (([] ++ [ys]).length ≤ j + 1) := by unfold Hid; rw [List.length_append]; first | (have := HSL.out; simp; omega) | simp
        clear hown7 hg7 hat7 hcv
        go_wp2
        go_roundw
        case rel => exact ⟨j + 1, wv5, S', _, st, e', _, by omega, by go_num, by simp, rfl, HJ7.out, HG2.out, HOW7.out, HSL7.out, HK7.out⟩
        case measure => simp [intOf]; omega
    · have hle : ¬ ((j : Nat) : Int) < (len1 : Nat) := by omega
      have hK : ∀ i, (i < w.heap.size ∨ u10.ownBlock = some i) ∨ i = p → i < wr.heap.size := HJ.out.2.1.kl
      go_wp2_with fail
      refine (crash_v HJ.out.2.1 (.slice none 0 0) [] (Ints.nil _) (-1) 0).mono ?_
      rintro x w5 ⟨rfl, hD5, hk5⟩
      obtain ⟨g1, g2, g3, g4⟩ := HG.out.1.again [] (-1) 0
      have hfr := HG.out.2.2.2.1
      have hjn := HG.out.2.1
      have hje := HG.out.2.2.1
      rw [hfr, hjn, hje] at g2 g3 g4
      have HD5 : Hid (IsDisk (fun i => (i < w.heap.size ∨ u10.ownBlock = some i) ∨ i = p) w5 { L with wv := .slice none 0 0 } (S.crashed [] (-1) 0)) := hD5
      have HH5 : Hid (B.Head w5 p L.b J) := B.same HJ.out.1 (hk5.block p (.inr rfl))
      have HK5 : Hid (Kept (fun i => i < w.heap.size) w w5) := HKP.out.trans (hk5.mono fun i hi => .inl (.inl hi))
      have HOW5 : Hid (w5.ownsRow w.heap.size 9 1 u10 sure.length (strVs sure)) := ownsRow_same HOW.out fun g hg => hk5.block g (.inl (.inr hg))
      have HOP : Hid (Calls Tryd.prog 16 #[.pointer (some ⟨L.b, 0, none⟩), .int .i64 0, .int .i64 (k : Nat), .int .i64 (e : Nat), .int .i64 (start : Nat)] w5 fun x w' => ∃ p2 lv, x = .returned (.tuple #[.pointer (some ⟨p2, 0, none⟩), lv, .int .i64 0]) ∧ IsJ B.Head (fun i => (i < w.heap.size ∨ u10.ownBlock = some i) ∨ i = p) w' p2 { L with wv := .slice none 0 0 } (S.crashed [] (-1) 0).spent (openJ S.safe 0 k e start) ∧ w5.heap.size ≤ p2 ∧ OctRows w' lv sure ∧ Kept (fun i => (i < w.heap.size ∨ u10.ownBlock = some i) ∨ i = p) w5 w') := by
        have := B.open_ _ w5 { L with wv := .slice none 0 0 } (S.crashed [] (-1) 0) 0 k e start HD5.out (by have := HK1.out; omega) (by have := HK1.out; omega) (by have := HG.out.1.inv.fit; rw [hfr, hjn] at this; exact this) (by rw [← hje]; exact HG.out.1.inv.ring.e1) (by rw [← hje]; exact HG.out.1.inv.ring.e2) (by rw [← hjn]; exact HG.out.1.inv.ring.st) (by show (-1 : Int) ≠ 0; decide) (((StepsK.below HT.out).kept HK5.out).more fun i hi => .inl (.inl hi))
        rw [g1, g2] at this
        exact this
      have HUP : Hid ((openJ S.safe 0 k e start).used = J.used ∧ (openJ S.safe 0 k e start).place = J.place) := ⟨g3, g4⟩
      generalize openJ S.safe 0 k e start = J2 at *
      generalize (S.crashed [] (-1) 0).spent = S2 at *
      clear hD5 hk5 g1 g2 g3 g4 hfr hjn hje hK
      go_wp2_with fail
      refine HOP.out.mono ?_
      rintro x w6 ⟨p2, lv, rfl, hJ6, hp6, hl6, hk6⟩
      have hl6' := hl6
      obtain ⟨_, la, lc, hlv, _⟩ := hl6'
      subst hlv
      have HL6 : Hid (OctRows w6 (.slice la sure.length lc) sure) := hl6
      have HH6 : Hid (B.Head w6 p2 L.b J2) := hJ6.1
      have HHp : Hid (B.Head w6 p L.b J) := B.same HH5.out (hk6.block p (.inr rfl))
      have HK6 : Hid (Kept (fun i => i < w.heap.size) w w6) := HK5.out.trans (hk6.mono fun i hi => .inl (.inl hi))
      have HST : Hid (Strs w6 u10 sure) := Strs.owned (ownsRow_same HOW5.out fun g hg => hk6.block g (.inl (.inr hg)))
      clear hJ6 hp6 hl6 hk6 HOP
      obtain ⟨us, hus⟩ : ∃ us, us = J.used := ⟨_, rfl⟩
      obtain ⟨pl, hpl⟩ : ∃ pl, pl = J.place := ⟨_, rfl⟩
      have HU1 : Hid (∀ n, Calls Tryd.prog 19 #[.pointer (some ⟨p, 0, none⟩)] (w6.drewN n) fun x w' => x = .returned (.int .i64 (us : Nat)) ∧ w' = w6.drewN n) := fun n => by rw [hus]; exact B.used (w6.drewN n) p L.b J (B.same HHp.out rfl)
      have HU2 : Hid (∀ n, Calls Tryd.prog 19 #[.pointer (some ⟨p2, 0, none⟩)] (w6.drewN n) fun x w' => x = .returned (.int .i64 (us : Nat)) ∧ w' = w6.drewN n) := fun n => by rw [hus, ← HUP.out.1]; exact B.used (w6.drewN n) p2 L.b J2 (B.same HH6.out rfl)
      have HP1 : Hid (∀ n, Calls Tryd.prog 13 #[.pointer (some ⟨p, 0, none⟩)] (w6.drewN n) fun x w' => x = .returned (.int .i64 (pl : Nat)) ∧ w' = w6.drewN n) := fun n => by rw [hpl]; exact B.place (w6.drewN n) p L.b J (B.same HHp.out rfl)
      have HP2 : Hid (∀ n, Calls Tryd.prog 13 #[.pointer (some ⟨p2, 0, none⟩)] (w6.drewN n) fun x w' => x = .returned (.int .i64 (pl : Nat)) ∧ w' = w6.drewN n) := fun n => by rw [hpl, ← HUP.out.2]; exact B.place (w6.drewN n) p2 L.b J2 (B.same HH6.out rfl)
      have HSM : Hid (∀ n, Calls Tryd.prog 18 #[.slice la sure.length lc, u10] (w6.drewN n) fun x w' => x = .returned (.bool true) ∧ ∃ m, w' = (w6.drewN n).drewN m) := fun n => same7 (w6.drewN n) _ u10 sure HL6.out HST.out
      clear hus hpl
      go_wp2_with fail
      refine (HSM.out 0).mono ?_
      rintro x wq ⟨rfl, nm, hwq⟩
      obtain ⟨nq, hnq⟩ : ∃ n, (w6.drewN 0).drewN nm = w6.drewN n := ⟨nm, rfl⟩
      rw [hwq, hnq]
      clear hwq wq hnq nm
      go_wp2_with fail
      refine (HU2.out nq).mono ?_
      rintro x wq ⟨rfl, hwq⟩
      rw [hwq]
      clear hwq wq
      go_wp2_with fail
      refine (HU1.out nq).mono ?_
      rintro x wq ⟨rfl, hwq⟩
      rw [hwq]
      clear hwq wq
      go_wp2_with fail
      refine (HP2.out nq).mono ?_
      rintro x wq ⟨rfl, hwq⟩
      rw [hwq]
      clear hwq wq
      go_wp2_with fail
      refine (HP1.out nq).mono ?_
      rintro x wq ⟨rfl, hwq⟩
      rw [hwq]
      clear hwq wq
      go_wp2
      go_ret
      exact ⟨rfl, (HK6.out.trans (Kept.ofBelow (below_drewN7 w6 _) fun i hi => Nat.lt_of_lt_of_le hi HK6.out.size)).below fun i hi => hi⟩
end Go.Proofs.YthhdkadjlddmkaaDoor
