/- The law JournalCrashes over the bundle (written by mk_crash7.py). -/
import Derived.Test.YthhdkadjlddmkaaDoorCrash7
import Derived.Test.YthhdkadjlddmkaaDoorLawRound7b
namespace Go.Proofs.YthhdkadjlddmkaaDoor
open Go.RowKit
set_option linter.unusedVariables false

theorem Acts.at {w : World} {a : Option Addr} {len cap : Nat} {cs : List Ac} (h : Acts w (.slice a len cap) cs) {j : Nat} (hj : j < len) : ∃ b off c, a = some ⟨b, off, none⟩ ∧ b < w.heap.size ∧ (∀ i v, (acCells c)[i]? = some v → w.cell? ⟨b, off + j * 6 + i, none⟩ = some v) ∧ Octs w c.bv c.bs ∧ Ints w c.kv c.ks ∧ c.n ≤ 9223372036854775807 := by
  obtain ⟨_, a', cap', e, h2⟩ := h
  simp only [Value.slice.injEq] at e
  obtain ⟨rfl, hl, rfl⟩ := e
  rcases h2 with h2 | ⟨b, off, h3, h4, h5⟩
  · rw [h2] at hl; simp at hl; omega
  · have hj' : j < cs.length := by omega
    obtain ⟨k1, k2, k3, k4⟩ := h5 j cs[j] (List.getElem?_eq_getElem hj')
    exact ⟨b, off, cs[j], h3, h4, k1, k2, k3, k4⟩
theorem Ints.shape {w : World} {v : Value} {zs : List Int} (h : Ints w v zs) : ∃ a cap, v = .slice a zs.length cap := by
  obtain ⟨_, a, cap, e, _⟩ := h
  exact ⟨a, cap, e⟩
/-- A box with an act in it. -/
def ABox (W : World) (X : Nat) (kind n : Int) (bv kv : Value) (torn cut : Int) : Prop := W.heap[X]? = some (.cells #[.int .i64 kind, .int .i64 n, bv, kv, .int .i64 torn, .int .i64 cut] 37 (0, 0))
theorem ABox.cells {W : World} {X : Nat} {kind n : Int} {bv kv : Value} {torn cut : Int} (h : ABox W X kind n bv kv torn cut) : W.cell? ⟨X, 0, none⟩ = some (.int .i64 kind) ∧ W.cell? ⟨X, 1, none⟩ = some (.int .i64 n) ∧ W.cell? ⟨X, 2, none⟩ = some bv ∧ W.cell? ⟨X, 3, none⟩ = some kv ∧ W.cell? ⟨X, 4, none⟩ = some (.int .i64 torn) ∧ W.cell? ⟨X, 5, none⟩ = some (.int .i64 cut) := by
  unfold ABox at h
  refine ⟨?_, ?_, ?_, ?_, ?_, ?_⟩ <;> rw [cell_of_row _ _ _ _ _ _ h] <;> rfl

set_option maxRecDepth 20000 in
set_option maxHeartbeats 8000000 in
theorem journalCrashes_of (B : JOps) (a0 : Int) (a1 : Option Addr) (len1 cap1 : Nat) (c1 : List Ac) (w : World) (ht : Steps w) (f0 : (Lit.int .i64 a0).wf = true) (f1 : Acts w (.slice a1 len1 cap1) c1) :
    Calls Tryd.prog 3 #[.int .i64 a0, .slice a1 len1 cap1] w fun x w' => x = .returned (.bool true) ∧ Below w.heap.size w w' := by
  have hmax : (len1 : Int) ≤ 9223372036854775807 := by
    obtain ⟨h1, a', cap', e, _⟩ := f1
    simp only [Value.slice.injEq] at e
    unfold maxLen at h1
    omega
  have HA : Hid (Acts w (.slice a1 len1 cap1) c1) := f1
  have HT : Hid (Steps w) := ht
  have HAW : Hid (∀ W, Below w.heap.size w W → Calls Tryd.prog 7 #[] W fun e w' => e = .returned (.bool true) ∧ Below W.heap.size W w') := fun W hW => awake7 B W (HT.out.below hW)
  obtain ⟨r, q, k, hr, hq, hk, hw1, hw2, hw3, hw4, hk1⟩ := pick20 4 (by decide) a0
  have HK1 : Hid (4 ≤ k ∧ k ≤ 23) := hk1
  have hk' : 4 + q = (k : Nat) := hk
  obtain ⟨k2, hk2⟩ : ∃ k2, k2 = k + 2 := ⟨_, rfl⟩
  have HK2E : Hid (k2 = k + 2) := hk2
  have hk2i : ((k : Nat) : Int) + 2 = (k2 : Nat) := by clear hr hq hw1 hw2 hw3 hw4; omega
  have hwk2 : wrap64 (k2 : Nat) = (k2 : Nat) := wrap_small (by omega) (by clear hr hq hw1 hw2 hw3 hw4; omega)
  have HNEW : Hid (∀ (W : World) (L : Loc), IsDisk (fun i => i < w.heap.size) W L (freshSt k2) → Calls Tryd.prog 9 #[.pointer (some ⟨L.b, 0, none⟩), .int .i64 1, .int .i64 (k : Nat), .int .i64 1, .int .i64 0] W fun x w' => ∃ p, x = .returned (.tuple #[.pointer (some ⟨p, 0, none⟩), .int .i64 0]) ∧ IsJ B.Head (fun i => i < w.heap.size) w' p L (freshSt k2) (JS.fresh 1 k 1 0) ∧ W.heap.size ≤ p ∧ Below W.heap.size W w') := fun W L hD =>
    B.new _ W L (freshSt k2) 1 k 1 0 hD hk1.1 (Nat.le_trans hk1.2 (by decide)) (by show 1 + k ≤ k2; clear hr hq hw1 hw2 hw3 hw4; omega) (by decide) (by decide) (Nat.lt_of_lt_of_le (by decide) hk1.1)
  have HI0 : Hid (JInv (freshSt k2) (JS.fresh 1 k 1 0) 0 [] []) := JInv.new k2 1 k 1 0 hk1.1 (Nat.le_trans hk1.2 (by decide)) (by clear hr hq hw1 hw2 hw3 hw4; omega) (by decide) (by decide) (Nat.lt_of_lt_of_le (by decide) hk1.1)
  clear ht f0 f1 hk1 hk hk2
  by_cases hbig : (20 : Int) < (len1 : Nat)
  · clear hk2i hwk2
    go_enter Tryd.func3, Tryd.ntmps3
    go_wp2_with fail
    refine (HAW.out w (Below.refl _ _)).mono ?_
    rintro e w1 ⟨rfl, hb1⟩
    have HB1 : Hid (Below w.heap.size w w1) := hb1
    clear hb1
    go_wp2_with fail
    refine (HAW.out w1 HB1.out).mono ?_
    rintro e w2 ⟨rfl, hb2⟩
    have HB2 : Hid (Below w.heap.size w w2) := HB1.out.trans (hb2.mono HB1.out.size)
    clear hb2
    go_wp2
    go_ret
    exact ⟨rfl, HB2.out⟩
  go_enter Tryd.func3, Tryd.ntmps3
  go_wp2_with fail
  refine (HAW.out w (Below.refl _ _)).mono ?_
  rintro e w1 ⟨rfl, hb1⟩
  have HB1 : Hid (Below w.heap.size w w1) := hb1
  have hs1 : w.heap.size ≤ w1.heap.size := hb1.size
  clear hb1
  go_wp2_with fail
  rw [hw2, hwk2]
  clear hr hq hk' hw1 hw2 hw3 hw4 hk2i hwk2
  refine (new_v (fun i => i < w.heap.size) w1 k2 (by have := HK1.out; have := HK2E.out; omega) (by have := HK1.out; have := HK2E.out; omega) (fun i hi => by omega)).mono ?_
  rintro e w2 ⟨L, rfl, hD, hb2, _⟩
  have HD : Hid (IsDisk (fun i => i < w.heap.size) w2 L (freshSt k2)) := hD
  have HK2 : Hid (Kept (fun i => i < w.heap.size) w w2) := (Kept.ofBelow HB1.out fun _ h => h).trans (Kept.ofBelow hb2 fun i hi => by omega)
  clear hD hb2
  go_wp2_with fail
  refine (HNEW.out w2 L HD.out).mono ?_
  rintro e w3 ⟨p0, rfl, hJ, hp, hb3⟩
  have HJ3 : Hid (IsJ B.Head (fun i => i < w.heap.size ∨ (Value.slice none 0 0).ownBlock = some i) w3 p0 L (freshSt k2) (JS.fresh 1 k 1 0)) := by
    have e : (fun i => i < w.heap.size ∨ (Value.slice none 0 0).ownBlock = some i) = fun i => i < w.heap.size := by funext i; simp [Value.ownBlock]
    unfold Hid
    rw [e]; exact hJ
  have HK3 : Hid (Kept (fun i => i < w.heap.size) w w3) := HK2.out.trans (Kept.ofBelow hb3 fun i hi => Nat.lt_of_lt_of_le hi HK2.out.size)
  clear hJ hp hb3 HD HK2 HB1 HNEW HAW
  go_wp2_with fail
  go_loopw [8, 10, 11, 12, 13, 14] (fun pv sv uv ev tv i wr => ∃ (j p : Nat) (wv : Value) (S : St) (J : JS) (start e : Nat) (sure : List (List Nat)) (under : List Nat), j ≤ len1 + 1 ∧ i = .int .i64 j ∧ pv = .pointer (some ⟨p, 0, none⟩) ∧ uv = .string (strN under) ∧ ev = .int .i64 (e : Nat) ∧ tv = .int .i64 (start : Nat) ∧ Hid (IsJ B.Head (fun i => i < w.heap.size ∨ sv.ownBlock = some i) wr p { L with wv := wv } S J) ∧ Hid (JInv S J start sure under ∧ J.n = k ∧ J.epoch = e ∧ J.fr = 1 ∧ e ≤ 1 + j ∧ S.written ≤ 5000 * j) ∧ Hid (wr.ownsRow w.heap.size 9 1 sv sure.length (strVs sure)) ∧ Hid (sure.length ≤ j) ∧ Hid (Kept (fun i => i < w.heap.size) w wr)) (fun _ _ _ _ _ i _ => len1 + 1 - (intOf i).toNat)
  case atStart => exact ⟨0, p0, L.wv, _, _, 0, 1, [], [], by omega, rfl, rfl, rfl, rfl, rfl, HJ3.out, ⟨HI0.out, rfl, rfl, rfl, by omega, Nat.le_refl _⟩, World.ownsRow_nil _ _ _ _, Nat.le_refl _, HK3.out⟩
  case round =>
    clear HJ3 HK3 HI0
    obtain ⟨j, p, wv, S, J, start, e, sure, under, hj, rfl, rfl, rfl, rfl, rfl, HJ, HI, HOW, HSL, HKP⟩ := hrel
    by_cases hle : j ≤ len1
    · have hlj : ((j : Nat) : Int) ≤ (len1 : Nat) := by omega
      have hj20 : j ≤ 20 := by omega
      have HE20 : Hid (j ≤ 20) := hj20
      by_cases hlt : j < len1
      · have hlj2 : ((j : Nat) : Int) < (len1 : Nat) := by omega
        obtain ⟨b, off, c, rfl, hb, hcs, hob, hki, hcn⟩ := HA.out.at hlt
        obtain ⟨ba, bc, hbv⟩ := hob.shape
        obtain ⟨ka, kc, hkv⟩ := hki.shape
        obtain ⟨kind, n, bv, bs, kv, ks, torn, cut⟩ := c
        simp only at hbv hkv hob hki hcn
        subst hbv hkv
        have hcw : ∀ i v, [Value.int .i64 kind, .int .i64 n, .slice ba bs.length bc, .slice ka ks.length kc, .int .i64 torn, .int .i64 cut][i]? = some v → (wr.alloc (.cells #[.int .i64 3, .int .i64 0, .slice none 0 0, .slice none 0 0, .int .i64 0, .int .i64 0] 37)).cell? ⟨b, off + j * 6 + i, none⟩ = some v := fun i v h => ((HKP.out.alloc (fun i hi => Nat.lt_of_lt_of_le hi HKP.out.size) _).cell (p := ⟨b, off + j * 6 + i, none⟩) hb).trans (hcs i v h)
        have q0 : (wr.alloc (.cells #[.int .i64 3, .int .i64 0, .slice none 0 0, .slice none 0 0, .int .i64 0, .int .i64 0] 37)).cell? ⟨b, off + j * 6, none⟩ = some (.int .i64 kind) := hcw 0 _ rfl
        have q1 : (wr.alloc (.cells #[.int .i64 3, .int .i64 0, .slice none 0 0, .slice none 0 0, .int .i64 0, .int .i64 0] 37)).cell? ⟨b, off + j * 6 + 1, none⟩ = some (.int .i64 n) := hcw 1 _ rfl
        have q2 : (wr.alloc (.cells #[.int .i64 3, .int .i64 0, .slice none 0 0, .slice none 0 0, .int .i64 0, .int .i64 0] 37)).cell? ⟨b, off + j * 6 + 2, none⟩ = some (.slice ba bs.length bc) := hcw 2 _ rfl
        have q3 : (wr.alloc (.cells #[.int .i64 3, .int .i64 0, .slice none 0 0, .slice none 0 0, .int .i64 0, .int .i64 0] 37)).cell? ⟨b, off + j * 6 + 3, none⟩ = some (.slice ka ks.length kc) := hcw 3 _ rfl
        have q4 : (wr.alloc (.cells #[.int .i64 3, .int .i64 0, .slice none 0 0, .slice none 0 0, .int .i64 0, .int .i64 0] 37)).cell? ⟨b, off + j * 6 + 4, none⟩ = some (.int .i64 torn) := hcw 4 _ rfl
        have q5 : (wr.alloc (.cells #[.int .i64 3, .int .i64 0, .slice none 0 0, .slice none 0 0, .int .i64 0, .int .i64 0] 37)).cell? ⟨b, off + j * 6 + 5, none⟩ = some (.int .i64 cut) := hcw 5 _ rfl
        obtain ⟨X, hX⟩ : ∃ X, X = wr.heap.size := ⟨_, rfl⟩
        obtain ⟨W1, hW1⟩ : ∃ W1, W1 = wr.alloc (.cells #[.int .i64 kind, .int .i64 n, .slice ba bs.length bc, .slice ka ks.length kc, .int .i64 torn, .int .i64 cut] 37) := ⟨_, rfl⟩
        have HW1 : Hid (W1 = wr.alloc (.cells #[.int .i64 kind, .int .i64 n, .slice ba bs.length bc, .slice ka ks.length kc, .int .i64 torn, .int .i64 cut] 37)) := hW1
        have HXE : Hid (X = wr.heap.size) := hX
        have HB1 : Hid (ABox W1 X kind n (.slice ba bs.length bc) (.slice ka ks.length kc) torn cut) := by unfold Hid ABox; rw [hW1, hX]; exact heap_alloc_new wr _
        have HJ1 : Hid (IsJ B.Head (fun i => (i < w.heap.size ∨ u10.ownBlock = some i) ∨ i = X) W1 p { L with wv := wv } S J) := by unfold Hid; rw [hW1, hX]; exact HJ.out.with _
        have HKW1 : Hid (Kept (fun i => i < w.heap.size) w W1) := by unfold Hid; rw [hW1]; exact HKP.out.alloc (fun i hi => Nat.lt_of_lt_of_le hi HKP.out.size) _
        have HOW1 : Hid (W1.ownsRow w.heap.size 9 1 u10 sure.length (strVs sure)) := by unfold Hid; rw [hW1]; exact HOW.out.alloc _
        have HOBk : Hid (∀ W, Kept (fun i => i < w.heap.size) w W → Octs W (.slice ba bs.length bc) bs) := fun W h => hob.kept (h.below fun i hi => hi)
        have HKIk : Hid (∀ W, Kept (fun i => i < w.heap.size) w W → Ints W (.slice ka ks.length kc) ks) := fun W h => hki.kept (h.below fun i hi => hi)
        have HCN : Hid (n ≤ 9223372036854775807) := hcn
        have HSM : Hid (∀ z ∈ bs, z < 256) := hob.small
        have HBL : Hid (bs.length ≤ 9223372036854775807) := hob.len
        have HBB : Hid (0 < bs.length → ∃ b off, ba = some ⟨b, off, none⟩ ∧ b < w.heap.size) := fun h => by obtain ⟨b, off, h1, h2, _⟩ := hob.addr h; exact ⟨b, off, h1, h2⟩
        have hbl := hob.len
        have hkl : ks.length ≤ 9223372036854775807 := by have := hki.1; unfold maxLen at this; omega
        have HT1 : Hid (∀ W, Kept (fun i => i < w.heap.size) w W → StepsK (fun i => (i < w.heap.size ∨ u10.ownBlock = some i) ∨ i = X) W) := fun W hW => ((StepsK.below HT.out).kept hW).more fun i hi => .inl (.inl hi)
        have HWB : Hid (S.waits.length + 5000 ≤ 1000000000 ∧ S.written + 5000 ≤ 1000000000) := ⟨by have := HI.out.1.waits_le; omega, by have := HI.out.2.2.2.2.2; omega⟩
        clear hcs hcw hob hki hcn hX hW1 hb
        by_cases hbs : (1500 : Int) < (bs.length : Nat)
        · go_wp2
          go_ret
          exact ⟨rfl, ((HKP.out.alloc (fun i hi => Nat.lt_of_lt_of_le hi HKP.out.size) _).below fun i hi => hi)⟩
        by_cases hks : (40 : Int) < (ks.length : Nat)
        · go_wp2
          go_ret
          exact ⟨rfl, ((HKP.out.alloc (fun i hi => Nat.lt_of_lt_of_le hi HKP.out.size) _).below fun i hi => hi)⟩
        by_cases k0 : kind = 0
        · subst k0
          obtain ⟨S', J', c, hA, hee, hwr, hcase⟩ := HI.out.1.appended bs HSM.out
          have HAP : Hid (Calls Tryd.prog 10 #[.pointer (some ⟨p, 0, none⟩), .slice ba bs.length bc] W1 fun x w' => ∃ wv, x = .returned (.int .i64 (c : Nat)) ∧ IsJ B.Head (fun i => (i < w.heap.size ∨ u10.ownBlock = some i) ∨ i = X) w' p { L with wv := wv } S' J' ∧ Kept (fun i => (i < w.heap.size ∨ u10.ownBlock = some i) ∨ i = X) W1 w') := by
            have := B.append (fun i => (i < w.heap.size ∨ u10.ownBlock = some i) ∨ i = X) W1 p { L with wv := wv } S J _ bs HJ1.out HI.out.1.ok (HOBk.out _ HKW1.out) (by
              rintro x n c e h0
              simp only [Value.slice.injEq] at e
              obtain ⟨b, off, h1, h2⟩ := HBB.out (by omega)
              rw [h1] at e
              cases e.1
              exact .inl (.inl h2)) HWB.out.1 HWB.out.2 (HT1.out _ HKW1.out)
            rw [hA] at this
            exact this
          have HEE : Hid (J'.n = k ∧ J'.epoch = e ∧ J'.fr = 1 ∧ e ≤ 1 + (j + 1) ∧ S'.written ≤ 5000 * (j + 1)) := ⟨hee.1.trans HI.out.2.1, hee.2.1.trans HI.out.2.2.1, hee.2.2.trans HI.out.2.2.2.1, by have := HI.out.2.2.2.2.1; omega, by have := HI.out.2.2.2.2.2; omega⟩
          clear hA hee hwr
          go_wp2_with fail
          rw [← HXE.out, ← HW1.out]
          refine HAP.out.mono ?_
          rintro x W5 ⟨wv5, rfl, hJ5, hk5⟩
          have HJx : Hid (IsJ B.Head (fun i => (i < w.heap.size ∨ u10.ownBlock = some i) ∨ i = X) W5 p { L with wv := wv5 } S' J') := hJ5
          have HKx : Hid (Kept (fun i => i < w.heap.size) w W5) := HKW1.out.trans (hk5.mono fun i hi => .inl (.inl hi))
          have HOWx : Hid (W5.ownsRow w.heap.size 9 1 u10 sure.length (strVs sure)) := ownsRow_same HOW1.out fun g hg => hk5.block g (.inl (.inr hg))
          have HBx : Hid (ABox W5 X 0 n (.slice ba bs.length bc) (.slice ka ks.length kc) torn cut) := (hk5.block X (.inr rfl)).trans HB1.out
          clear hJ5 hk5 HAP q0 q1 q2 q3 q4 q5
          obtain ⟨y0, y1, y2, y3, y4, y5⟩ := HBx.out.cells
          rcases hcase with ⟨rfl, rfl, hI⟩ | ⟨rfl, rfl, hI⟩ | ⟨rfl, hne, hI⟩ | ⟨hc, hI⟩
          · -- appended
            have hcv : (convert 32 9 (.slice ba bs.length bc)).run Tryd.prog W5 = .ok (.string (strN bs)) W5 := conv_octs (HOBk.out _ HKx.out) _ 5 _ Tryd.underlying32 Tryd.underlying5 Tryd.underlying9
            obtain ⟨ty, hty⟩ : ∃ ty, strN bs = ty := ⟨_, rfl⟩
            rw [hty] at hcv
            have HTY : Hid (strN bs = ty) := hty
            clear hty
            obtain ⟨i0, hi, hz0, hz1, hz2⟩ := info_parts Tryd.infoStr7
            have hW5s : w.heap.size ≤ W5.heap.size := HKx.out.size
            have HSL2 : Hid (sure.length ≤ 30) := by unfold Hid; have := HSL.out; omega
            go_wp2_with (at_builtin; refine wpList_append_own_at _ rfl _ _ 31 rfl w.heap.size 9 i0 _ 1 16 Tryd.underlying31 hi hz0 hz1 hz2 rfl (by decide) u10 sure.length (strVs sure) rfl (HOWx.out.alloc _) _ 1 1 [.string ty] rfl rfl (cell_one_new _ _ _) ?c2 ?c3 ?c4 ?c5 ?_)
            case c2 => intro u hu; simp at hu; subst hu; rfl
            case c3 => have := HSL2.out; unfold maxLen; omega
            case c4 => have := HSL2.out; omega
            case c5 => simp; omega
            intro v7 W7 hown7 hg7 _ hat7
            have HJe : Hid (IsJ B.Head (fun i => i < w.heap.size ∨ v7.ownBlock = some i) W7 p { L with wv := wv5 } S' J') := IsJ.grew ((HJx.out.less (K' := (fun i => i < w.heap.size ∨ u10.ownBlock = some i)) fun i hi => .inl hi).alloc _) hg7 (by rw [World.size_alloc]; exact hat7) fun g hg => (hown7.lt g hg).2
            have HKe : Hid (Kept (fun i => i < w.heap.size) w W7) := (HKx.out.alloc (fun i hi => Nat.lt_of_lt_of_le hi hW5s) _).grown hg7 fun i hi => ⟨by simp; omega, fun e => by have := (HOWx.out.lt i e).1; omega⟩
            have HOWe : Hid (W7.ownsRow w.heap.size 9 1 v7 (sure ++ [bs]).length (strVs (sure ++ [bs]))) := by
              unfold Hid
              rw [strVs_app, List.length_append]
              have : strVs [bs] = [.string ty] := by show [Value.string (strN bs)] = _; rw [HTY.out]
              rw [this]
              exact hown7
            have HSLe : Hid ((sure ++ [bs]).length ≤ j + 1) := by unfold Hid; rw [List.length_append]; have := HSL.out; simp; omega
            have HIe : Hid (JInv S' J' start (sure ++ [bs]) [] ∧ J'.n = k ∧ J'.epoch = e ∧ J'.fr = 1 ∧ e ≤ 1 + (j + 1) ∧ S'.written ≤ 5000 * (j + 1)) := ⟨hI, HEE.out⟩
            clear hown7 hg7 hat7 hcv
            go_wp2
            go_roundw
            case rel => exact ⟨j + 1, p, wv5, S', J', start, e, (sure ++ [bs]), [], by omega, by go_num, rfl, rfl, rfl, rfl, HJe.out, HIe.out, HOWe.out, HSLe.out, HKe.out⟩
            case measure => simp [intOf]; omega
          · -- cut off on the way
            have hcv : (convert 32 9 (.slice ba bs.length bc)).run Tryd.prog W5 = .ok (.string (strN bs)) W5 := conv_octs (HOBk.out _ HKx.out) _ 5 _ Tryd.underlying32 Tryd.underlying5 Tryd.underlying9
            have HIe : Hid (JInv S' J' start sure bs ∧ J'.n = k ∧ J'.epoch = e ∧ J'.fr = 1 ∧ e ≤ 1 + (j + 1) ∧ S'.written ≤ 5000 * (j + 1)) := ⟨hI, HEE.out⟩
            have HJe : Hid (IsJ B.Head (fun i => i < w.heap.size ∨ u10.ownBlock = some i) W5 p { L with wv := wv5 } S' J') := HJx.out.less fun i hi => .inl hi
            have HOWe : Hid (W5.ownsRow w.heap.size 9 1 u10 sure.length (strVs sure)) := HOWx.out
            have HSLe : Hid (sure.length ≤ j + 1) := Nat.le_succ_of_le HSL.out
            have HKe : Hid (Kept (fun i => i < w.heap.size) w W5) := HKx.out
            have hs0 : strN ([] : List Nat) = ⟨#[]⟩ := rfl
            rw [hs0]
            go_wp2
            go_roundw
            case rel => exact ⟨j + 1, p, wv5, S', J', start, e, sure, bs, by omega, by go_num, rfl, rfl, rfl, rfl, HJe.out, HIe.out, HOWe.out, HSLe.out, HKe.out⟩
            case measure => simp [intOf]; omega
          · -- dead already
            have HIe : Hid (JInv S' J' start sure under ∧ J'.n = k ∧ J'.epoch = e ∧ J'.fr = 1 ∧ e ≤ 1 + (j + 1) ∧ S'.written ≤ 5000 * (j + 1)) := ⟨hI, HEE.out⟩
            have HJe : Hid (IsJ B.Head (fun i => i < w.heap.size ∨ u10.ownBlock = some i) W5 p { L with wv := wv5 } S' J') := HJx.out.less fun i hi => .inl hi
            have HOWe : Hid (W5.ownsRow w.heap.size 9 1 u10 sure.length (strVs sure)) := HOWx.out
            have HSLe : Hid (sure.length ≤ j + 1) := Nat.le_succ_of_le HSL.out
            have HKe : Hid (Kept (fun i => i < w.heap.size) w W5) := HKx.out
            obtain ⟨tu, htu⟩ : ∃ tu, tu = strN under := ⟨_, rfl⟩
            have htn : tu.toList.isEmpty = false := by rw [htu]; exact strN_some hne
            rw [← htu]
            have HTU : Hid (tu = strN under) := htu
            clear htu
            go_wp2
            rw [HTU.out]
            go_roundw
            case rel => exact ⟨j + 1, p, wv5, S', J', start, e, sure, under, by omega, by go_num, rfl, rfl, rfl, rfl, HJe.out, HIe.out, HOWe.out, HSLe.out, HKe.out⟩
            case measure => simp [intOf]; omega
          · -- refused
            have HIe : Hid (JInv S' J' start sure under ∧ J'.n = k ∧ J'.epoch = e ∧ J'.fr = 1 ∧ e ≤ 1 + (j + 1) ∧ S'.written ≤ 5000 * (j + 1)) := ⟨hI, HEE.out⟩
            have HJe : Hid (IsJ B.Head (fun i => i < w.heap.size ∨ u10.ownBlock = some i) W5 p { L with wv := wv5 } S' J') := HJx.out.less fun i hi => .inl hi
            have HOWe : Hid (W5.ownsRow w.heap.size 9 1 u10 sure.length (strVs sure)) := HOWx.out
            have HSLe : Hid (sure.length ≤ j + 1) := Nat.le_succ_of_le HSL.out
            have HKe : Hid (Kept (fun i => i < w.heap.size) w W5) := HKx.out
            obtain ⟨tu, htu⟩ : ∃ tu, tu = strN under := ⟨_, rfl⟩
            rw [← htu]
            have HTU : Hid (tu = strN under) := htu
            clear htu
            have hc0 : ¬ ((c : Nat) : Int) = 0 := by omega
            have hc10 : ¬ ((c : Nat) : Int) = 10 := by omega
            clear hc
            go_wp2
            rw [HTU.out]
            go_roundw
            case rel => exact ⟨j + 1, p, wv5, S', J', start, e, sure, under, by omega, by go_num, rfl, rfl, rfl, rfl, HJe.out, HIe.out, HOWe.out, HSLe.out, HKe.out⟩
            case measure => simp [intOf]; omega
        have HK0 : Hid (¬ kind = 0) := k0
        by_cases k1 : kind = 1
        · subst k1
          obtain ⟨J', c, hR, hcase⟩ := HI.out.1.resetted (by have := HI.out.2.2.2.2.1; have := HI.out.2.2.1; omega)
          have HRS : Hid (Calls Tryd.prog 11 #[.pointer (some ⟨p, 0, none⟩)] W1 fun x w' => x = .returned (.int .i64 (c : Nat)) ∧ IsJ B.Head (fun i => (i < w.heap.size ∨ u10.ownBlock = some i) ∨ i = X) w' p { L with wv := wv } S J' ∧ Kept (fun i => (i < w.heap.size ∨ u10.ownBlock = some i) ∨ i = X) W1 w') := by
            have := B.reset _ W1 p { L with wv := wv } S J HJ1.out HI.out.1.ring.e2
            rw [hR] at this
            exact this
          clear hR
          go_wp2_with fail
          rw [← HXE.out, ← HW1.out]
          refine HRS.out.mono ?_
          rintro x W5 ⟨rfl, hJ5, hk5⟩
          have HJx : Hid (IsJ B.Head (fun i => (i < w.heap.size ∨ u10.ownBlock = some i) ∨ i = X) W5 p { L with wv := wv } S J') := hJ5
          have HKx : Hid (Kept (fun i => i < w.heap.size) w W5) := HKW1.out.trans (hk5.mono fun i hi => .inl (.inl hi))
          have HOWx : Hid (W5.ownsRow w.heap.size 9 1 u10 sure.length (strVs sure)) := ownsRow_same HOW1.out fun g hg => hk5.block g (.inl (.inr hg))
          clear hJ5 hk5 HRS q0 q1 q2 q3 q4 q5
          rcases hcase with ⟨rfl, rfl, hI, e1, e2, e3, e4⟩ | ⟨rfl, rfl⟩
          · obtain ⟨st, hst⟩ : ∃ st, st = J.place := ⟨_, rfl⟩
            obtain ⟨e', he'⟩ : ∃ e', e' = e + 1 := ⟨_, rfl⟩
            have HQE : Hid (∀ n, Calls Tryd.prog 12 #[.pointer (some ⟨p, 0, none⟩)] (W5.drewN n) fun x w' => x = .returned (.int .i64 (e' : Nat)) ∧ w' = W5.drewN n) := fun n => by
              have := B.epoch (W5.drewN n) p L.b J' (B.same HJx.out.1 rfl)
              rw [e2, HI.out.2.2.1, ← he'] at this
              exact this
            have HQP : Hid (∀ n, Calls Tryd.prog 13 #[.pointer (some ⟨p, 0, none⟩)] (W5.drewN n) fun x w' => x = .returned (.int .i64 (st : Nat)) ∧ w' = W5.drewN n) := fun n => by
              have := B.place (W5.drewN n) p L.b J' (B.same HJx.out.1 rfl)
              rw [e4, ← hst] at this
              exact this
            have HI1 : Hid (JInv S J' st [] [] ∧ J'.n = k ∧ J'.epoch = e' ∧ J'.fr = 1 ∧ e' ≤ 1 + (j + 1) ∧ S.written ≤ 5000 * (j + 1)) := ⟨by rw [hst]; exact hI, e1.trans HI.out.2.1, by rw [e2, HI.out.2.2.1, he'], e3.trans HI.out.2.2.2.1, by have := HI.out.2.2.2.2.1; omega, by have := HI.out.2.2.2.2.2; omega⟩
            clear hI e1 e2 e3 e4 hst he'
            go_wp2_with fail
            obtain ⟨nq, hnq⟩ : ∃ n, W5.drewN 0 = W5.drewN n := ⟨0, rfl⟩
            refine (HQE.out 0).mono ?_
            rintro x wq ⟨rfl, hwq⟩
            rw [hwq, hnq]
            clear hwq wq hnq
            go_wp2_with fail
            refine (HQP.out nq).mono ?_
            rintro x wq ⟨rfl, hwq⟩
            rw [hwq]
            clear hwq wq
            have HJe : Hid (IsJ B.Head (fun i => i < w.heap.size ∨ (Value.slice none 0 0).ownBlock = some i) (W5.drewN nq) p { L with wv := wv } S J') := (HJx.out.below (below_drewN7 W5 _)).less fun i hi => hi.elim (fun h => .inl (.inl h)) (fun h => (by simp [Value.ownBlock] at h))
            have HIe := HI1
            have HOWe : Hid ((W5.drewN nq).ownsRow w.heap.size 9 1 (.slice none 0 0) ([] : List (List Nat)).length (strVs [])) := World.ownsRow_nil _ _ _ _
            have HSLe : Hid (([] : List (List Nat)).length ≤ j + 1) := Nat.zero_le _
            have HKe : Hid (Kept (fun i => i < w.heap.size) w (W5.drewN nq)) := HKx.out.trans (Kept.ofBelow (below_drewN7 W5 _) fun i hi => Nat.lt_of_lt_of_le hi HKx.out.size)
            go_wp2
            go_roundw
            case rel => exact ⟨j + 1, p, wv, S, J', st, e', [], [], by omega, by go_num, rfl, rfl, rfl, rfl, HJe.out, HIe.out, HOWe.out, HSLe.out, HKe.out⟩
            case measure => simp [intOf]; omega
          · have HIe : Hid (JInv S J' start sure under ∧ J'.n = k ∧ J'.epoch = e ∧ J'.fr = 1 ∧ e ≤ 1 + (j + 1) ∧ S.written ≤ 5000 * (j + 1)) := ⟨HI.out.1, HI.out.2.1, HI.out.2.2.1, HI.out.2.2.2.1, by have := HI.out.2.2.2.2.1; omega, by have := HI.out.2.2.2.2.2; omega⟩
            have HJe : Hid (IsJ B.Head (fun i => i < w.heap.size ∨ u10.ownBlock = some i) W5 p { L with wv := wv } S J') := HJx.out.less fun i hi => .inl hi
            have HOWe : Hid (W5.ownsRow w.heap.size 9 1 u10 sure.length (strVs sure)) := HOWx.out
            have HSLe : Hid (sure.length ≤ j + 1) := Nat.le_succ_of_le HSL.out
            have HKe : Hid (Kept (fun i => i < w.heap.size) w W5) := HKx.out
            go_wp2
            go_roundw
            case rel => exact ⟨j + 1, p, wv, S, J', start, e, sure, under, by omega, by go_num, rfl, rfl, rfl, rfl, HJe.out, HIe.out, HOWe.out, HSLe.out, HKe.out⟩
            case measure => simp [intOf]; omega
        have HK11 : Hid (¬ kind = 1) := k1
        by_cases k2' : kind = 2
        · subst k2'
          have HLM := limit_v HJ1.out.2.1 n HCN.out
          go_wp2_with fail
          rw [← HXE.out, ← HW1.out]
          refine HLM.mono ?_
          rintro x W5 ⟨⟨vx, rfl⟩, hD5, hk5⟩
          have HJx : Hid (IsJ B.Head (fun i => (i < w.heap.size ∨ u10.ownBlock = some i) ∨ i = X) W5 p { L with wv := wv } { S with left := limitOf n } J) := ⟨B.same HJ1.out.1 (hk5.block p (.inr rfl)), hD5, HJ1.out.2.2⟩
          have HKx : Hid (Kept (fun i => i < w.heap.size) w W5) := HKW1.out.trans (hk5.mono fun i hi => .inl (.inl (.inl hi)))
          have HOWx : Hid (W5.ownsRow w.heap.size 9 1 u10 sure.length (strVs sure)) := ownsRow_same HOW1.out fun g hg => hk5.block g (.inl (.inl (.inr hg)))
          have HIe : Hid (JInv { S with left := limitOf n } J start sure under ∧ J.n = k ∧ J.epoch = e ∧ J.fr = 1 ∧ e ≤ 1 + (j + 1) ∧ S.written ≤ 5000 * (j + 1)) := ⟨HI.out.1.left (limitOf n) S.written, HI.out.2.1, HI.out.2.2.1, HI.out.2.2.2.1, by have := HI.out.2.2.2.2.1; omega, by have := HI.out.2.2.2.2.2; omega⟩
          have HJe : Hid (IsJ B.Head (fun i => i < w.heap.size ∨ u10.ownBlock = some i) W5 p { L with wv := wv } { S with left := limitOf n } J) := HJx.out.less fun i hi => .inl hi
          have HOWe : Hid (W5.ownsRow w.heap.size 9 1 u10 sure.length (strVs sure)) := HOWx.out
          have HSLe : Hid (sure.length ≤ j + 1) := Nat.le_succ_of_le HSL.out
          have HKe : Hid (Kept (fun i => i < w.heap.size) w W5) := HKx.out
          clear hD5 hk5 q0 q1 q2 q3 q4 q5
          go_wp2
          go_roundw
          case rel => exact ⟨j + 1, p, wv, { S with left := limitOf n }, J, start, e, sure, under, by omega, by go_num, rfl, rfl, rfl, rfl, HJe.out, HIe.out, HOWe.out, HSLe.out, HKe.out⟩
          case measure => simp [intOf]; omega
        by_cases k3 : kind = 3
        · subst k3
          obtain ⟨_, ua, uc, hus, _⟩ := Strs.owned HOW1.out
          subst hus
          obtain ⟨hsp, hse, ps, hps, hcase, hIp⟩ := HI.out.1.opened ks torn cut
          have hfr := HI.out.2.2.2.1
          have hjn := HI.out.2.1
          have hje := HI.out.2.2.1
          rw [hfr, hjn, hje] at hps hIp
          have HD1 : Hid (IsDisk (fun k => (fun i => (i < w.heap.size ∨ (Value.slice ua sure.length uc).ownBlock = some i) ∨ i = X) k ∨ k = p) W1 { L with wv := wv } S) := HJ1.out.2.1
          have HOP : Hid (∀ W5, IsDisk (fun i => (i < w.heap.size ∨ (Value.slice ua sure.length uc).ownBlock = some i) ∨ i = X) W5 { L with wv := .slice none 0 0 } (S.crashed ks torn cut) → Kept (fun i => i < w.heap.size) w W5 → Calls Tryd.prog 16 #[.pointer (some ⟨L.b, 0, none⟩), .int .i64 1, .int .i64 (k : Nat), .int .i64 (e : Nat), .int .i64 (start : Nat)] W5 fun x w' => ∃ p2 lv, x = .returned (.tuple #[.pointer (some ⟨p2, 0, none⟩), lv, .int .i64 0]) ∧ IsJ B.Head (fun i => (i < w.heap.size ∨ (Value.slice ua sure.length uc).ownBlock = some i) ∨ i = X) w' p2 { L with wv := .slice none 0 0 } (S.crashed ks torn cut) (openJ (S.crashed ks torn cut).safe 1 k e start) ∧ W5.heap.size ≤ p2 ∧ OctRows w' lv ps ∧ Kept (fun i => (i < w.heap.size ∨ (Value.slice ua sure.length uc).ownBlock = some i) ∨ i = X) W5 w') := fun W5 hD hK => by
            have := B.open_ _ W5 { L with wv := .slice none 0 0 } (S.crashed ks torn cut) 1 k e start hD (by have := HK1.out; omega) (by have := HK1.out; omega) (by have := HI.out.1.fit; rw [hfr, hjn] at this; exact this) (by rw [← hje]; exact HI.out.1.ring.e1) (by rw [← hje]; exact HI.out.1.ring.e2) (by rw [← hjn]; exact HI.out.1.ring.st) (by show (-1 : Int) ≠ 0; decide) (HT1.out _ hK)
            rw [hse, hsp, hps] at this
            exact this
          have HIe0 : Hid (JInv (S.crashed ks torn cut) (openJ (S.crashed ks torn cut).safe 1 k e start) start ps [] ∧ (openJ (S.crashed ks torn cut).safe 1 k e start).n = k ∧ (openJ (S.crashed ks torn cut).safe 1 k e start).epoch = e ∧ (openJ (S.crashed ks torn cut).safe 1 k e start).fr = 1 ∧ e ≤ 1 + (j + 1) ∧ (S.crashed ks torn cut).written ≤ 5000 * (j + 1)) := ⟨hIp, rfl, rfl, rfl, by have := HI.out.2.2.2.2.1; omega, by have h1 := HI.out.2.2.2.2.2; show S.written ≤ _; omega⟩
          have HCR : Hid (Calls Tryd.prog 15 #[.pointer (some ⟨L.b, 0, none⟩), .agg #[(.slice ka ks.length kc), .int .i64 torn, .int .i64 cut]] W1 fun e w' => e = .returned (.int .i64 (keptTo ks S.waits.length : Nat)) ∧ IsDisk (fun k => (fun i => (i < w.heap.size ∨ (Value.slice ua sure.length uc).ownBlock = some i) ∨ i = X) k ∨ k = p) w' { L with wv := .slice none 0 0 } (S.crashed ks torn cut) ∧ Kept (fun k => (fun i => (i < w.heap.size ∨ (Value.slice ua sure.length uc).ownBlock = some i) ∨ i = X) k ∨ k = p) W1 w') := crash_v HD1.out _ ks (HKIk.out _ HKW1.out) torn cut
          obtain ⟨S2, hS2⟩ : ∃ S2, S2 = S.crashed ks torn cut := ⟨_, rfl⟩
          obtain ⟨J2, hJ2⟩ : ∃ J2, J2 = openJ (S.crashed ks torn cut).safe 1 k e start := ⟨_, rfl⟩
          rw [← hJ2] at HOP HIe0
          rw [← hS2] at HOP HIe0 HCR
          clear hsp hse hps hIp hfr hjn hje hS2 hJ2
          go_wp2_with fail
          rw [← HXE.out, ← HW1.out]
          refine HCR.out.mono ?_
          rintro x W5 ⟨rfl, hD5, hk5⟩
          have HD5 : Hid (IsDisk (fun i => (i < w.heap.size ∨ (Value.slice ua sure.length uc).ownBlock = some i) ∨ i = X) W5 { L with wv := .slice none 0 0 } S2) := hD5.less fun i hi => .inl hi
          have HK5 : Hid (Kept (fun i => i < w.heap.size) w W5) := HKW1.out.trans (hk5.mono fun i hi => .inl (.inl (.inl hi)))
          have HOW5 : Hid (W5.ownsRow w.heap.size 9 1 (.slice ua sure.length uc) sure.length (strVs sure)) := ownsRow_same HOW1.out fun g hg => hk5.block g (.inl (.inl (.inr hg)))
          clear hD5 hk5 HCR q0 q1 q2 q3 q4 q5
          go_wp2_with fail
          refine (HOP.out W5 HD5.out HK5.out).mono ?_
          rintro x W6 ⟨p2, lv, rfl, hJ6, hp6, hl6, hk6⟩
          have HL6 : Hid (OctRows W6 lv ps) := hl6
          obtain ⟨hpl, la, lc, hlv, hrows⟩ := hl6
          subst hlv
          have HRW : Hid (ps = [] ∨ ∃ b off, la = some ⟨b, off, none⟩ ∧ b < W6.heap.size ∧ ∀ j, j < ps.length → ∃ u, W6.cell? ⟨b, off + j, none⟩ = some u ∧ Octs W6 u (ps[j]?.getD [])) := hrows
          have HJx : Hid (IsJ B.Head (fun i => (i < w.heap.size ∨ (Value.slice ua sure.length uc).ownBlock = some i) ∨ i = X) W6 p2 { L with wv := .slice none 0 0 } S2 J2) := hJ6
          have HKx : Hid (Kept (fun i => i < w.heap.size) w W6) := HK5.out.trans (hk6.mono fun i hi => .inl (.inl hi))
          have HOWx : Hid (W6.ownsRow w.heap.size 9 1 (.slice ua sure.length uc) sure.length (strVs sure)) := ownsRow_same HOW5.out fun g hg => hk6.block g (.inl (.inr hg))
          obtain ⟨_, ua', uc', hue, hstr⟩ := Strs.owned HOWx.out
          simp only [Value.slice.injEq, true_and] at hue
          obtain ⟨rfl, rfl⟩ := hue
          have HST : Hid (sure = [] ∨ ∃ b, ua = some ⟨b, 0, none⟩ ∧ b < W6.heap.size ∧ ∀ j, j < sure.length → W6.cell? ⟨b, j, none⟩ = some (.string (strN (sure[j]?.getD [])))) := hstr
          have HSL2 : Hid (sure.length ≤ 30) := by unfold Hid; have := HSL.out; have := HE20.out; omega
          obtain ⟨N, hN⟩ : ∃ N, N = ps.length := ⟨_, rfl⟩
          obtain ⟨M, hM⟩ : ∃ M, M = sure.length := ⟨_, rfl⟩
          have HN : Hid (N = ps.length) := hN
          have HM : Hid (M = sure.length) := hM
          have HNM : Hid (N = M ∨ N = M + 1) := by
            unfold Hid
            rw [hN, hM]
            rcases hcase with h | ⟨_, h⟩
            · left; rw [h]
            · right; rw [h, List.length_append]; rfl
          have HEL : Hid (∀ q, q < N → (q < M → ps[q]?.getD [] = sure[q]?.getD []) ∧ (¬ q < M → ps[q]?.getD [] = under)) := fun q hq => by
            rw [hN] at hq
            rw [hM]
            rcases hcase with h | ⟨_, h⟩
            · rw [h] at hq ⊢; exact ⟨fun _ => rfl, fun hn => absurd hq hn⟩
            · rw [h, List.length_append] at hq
              rw [h]
              refine ⟨fun hl => by rw [List.getElem?_append_left hl], fun hl => ?_⟩
              have : q = sure.length := by simp at hq; omega
              rw [this, List.getElem?_append_right (Nat.le_refl _), Nat.sub_self]
              rfl
          rw [← hN] at hpl ⊢
          rw [← hM]
          have hM30 : M ≤ 30 := by rw [hM]; exact HSL2.out
          have hnm1 : ¬ ((N : Nat) : Int) < (M : Nat) := by have := HNM.out; omega
          have hnm2 : ¬ ((M : Nat) : Int) + 1 < (N : Nat) := by have := HNM.out; omega
          have hwm : wrap64 (((M : Nat) : Int) + 1) = ((M : Nat) : Int) + 1 := wrap_small (by omega) (by omega)
          have HCS : Hid (ps = sure ∨ under ≠ [] ∧ ps = sure ++ [under]) := hcase
          clear hJ6 hp6 hrows hk6 hstr hN hM hcase HOP
          go_wp2_with fail
          clear hnm1 hnm2 hwm
          go_loopw [20] (fun i wr2 => ∃ q : Nat, q ≤ N ∧ i = .int .i64 q ∧ wr2 = W6) (fun i _ => N - (intOf i).toNat)
          case atStart => exact ⟨0, Nat.zero_le _, rfl, rfl⟩
          case round =>
            obtain ⟨q, hqN, rfl, rfl⟩ := hrel
            by_cases hql : q < N
            · have hqi : ((q : Nat) : Int) < (N : Nat) := by omega
              obtain ⟨hel1, hel2⟩ := HEL.out q hql
              have hne : ps ≠ [] := fun e => by have := HN.out; rw [e] at this; simp at this; omega
              rcases HRW.out with h | ⟨b3, off3, rfl, hb3, hat3⟩
              · exact absurd h hne
              obtain ⟨u, hu, hou⟩ := hat3 q (by rw [← HN.out]; exact hql)
              obtain ⟨zs, hzs⟩ : ∃ zs, zs = ps[q]?.getD [] := ⟨_, rfl⟩
              rw [← hzs] at hou hel1 hel2
              have hcv : (convert 32 9 u).run Tryd.prog wr = .ok (.string (strN zs)) wr := conv_octs hou _ 5 _ Tryd.underlying32 Tryd.underlying5 Tryd.underlying9
              obtain ⟨ua3, uc3, hush⟩ := hou.shape
              obtain ⟨ul, hul⟩ : ∃ ul, ul = zs.length := ⟨_, rfl⟩
              rw [← hul] at hush
              subst hush
              clear hat3 hou hne hul hzs
              by_cases hqm : q < M
              · have hqmi : ((q : Nat) : Int) < (M : Nat) := by omega
                have hz2 := hel1 hqm
                rcases HST.out with h | ⟨b4, rfl, hb4, hat4⟩
                · exfalso; have := HM.out; rw [h] at this; simp at this; omega
                have hs4 := hat4 q (by rw [← HM.out]; exact hqm)
                rw [← hz2] at hs4
                clear hat4 hz2 hel1 hel2
                generalize strN zs = tz at *
                go_wp2
                go_roundw
                case rel => exact ⟨q + 1, by omega, by go_num, trivial⟩
                case measure => simp [intOf]; omega
              · have hqmi : ¬ ((q : Nat) : Int) < (M : Nat) := by omega
                have hz2 := hel2 hqm
                subst hz2
                clear hel1 hel2
                generalize strN zs = tz at *
                go_wp2
                go_roundw
                case rel => exact ⟨q + 1, by omega, by go_num, trivial⟩
                case measure => simp [intOf]; omega
            · have hqi : ¬ ((q : Nat) : Int) < (N : Nat) := by omega
              have HJ9 : Hid (IsJ B.Head (fun i => i < w.heap.size ∨ (Value.slice ua M uc).ownBlock = some i) wr p2 { L with wv := .slice none 0 0 } S2 J2) := by
                have := HJx.out.less (K' := fun i => i < w.heap.size ∨ (Value.slice ua sure.length uc).ownBlock = some i) fun i hi => .inl hi
                rw [← HM.out] at this
                exact this
              have HOW9 : Hid (wr.ownsRow w.heap.size 9 1 (.slice ua M uc) M (strVs sure)) := by
                have := HOWx.out
                rw [← HM.out] at this
                exact this
              rcases HCS.out with hps | ⟨hund, hps⟩
              · -- what was sure
                have hnm : ¬ ((M : Nat) : Int) < (N : Nat) := by have h1 := HN.out; have h2 := HM.out; rw [hps] at h1; omega
                have HIe : Hid (JInv S2 J2 start sure [] ∧ J2.n = k ∧ J2.epoch = e ∧ J2.fr = 1 ∧ e ≤ 1 + (j + 1) ∧ S2.written ≤ 5000 * (j + 1)) := by have := HIe0.out; rw [hps] at this; exact this
                have HJe := HJ9
                have HOWe : Hid (wr.ownsRow w.heap.size 9 1 (.slice ua M uc) sure.length (strVs sure)) := by unfold Hid; rw [← HM.out]; exact HOW9.out
                have HSLe : Hid (sure.length ≤ j + 1) := Nat.le_succ_of_le HSL.out
                have HKe := HKx
                clear hps
                go_wp2
                go_roundw
                case rel => exact ⟨j + 1, p2, (.slice none 0 0), S2, J2, start, e, sure, [], by omega, by go_num, rfl, rfl, rfl, rfl, HJe.out, HIe.out, HOWe.out, HSLe.out, HKe.out⟩
                case measure => simp [intOf]; omega
              · -- and what was under way
                have hnm : ((M : Nat) : Int) < (N : Nat) := by have h1 := HN.out; have h2 := HM.out; rw [hps, List.length_append] at h1; simp at h1; omega
                have HIe : Hid (JInv S2 J2 start (sure ++ [under]) [] ∧ J2.n = k ∧ J2.epoch = e ∧ J2.fr = 1 ∧ e ≤ 1 + (j + 1) ∧ S2.written ≤ 5000 * (j + 1)) := by have := HIe0.out; rw [hps] at this; exact this
                clear hps
                obtain ⟨ty, hty⟩ : ∃ ty, strN under = ty := ⟨_, rfl⟩
                rw [hty]
                have HTY : Hid (strN under = ty) := hty
                clear hty
                obtain ⟨i0, hi, hz0, hz1, hz2⟩ := info_parts Tryd.infoStr7
                have hW5s : w.heap.size ≤ wr.heap.size := HKx.out.size
                go_wp2_with (at_builtin; refine wpList_append_own_at _ rfl _ _ 31 rfl w.heap.size 9 i0 _ 1 16 Tryd.underlying31 hi hz0 hz1 hz2 rfl (by decide) (.slice ua M uc) M (strVs sure) rfl (HOW9.out.alloc _) _ 1 1 [.string ty] rfl rfl (cell_one_new _ _ _) ?c2 ?c3 ?c4 ?c5 ?_)
                case c2 => first | (intro u hu; simp at hu; subst hu; rfl) | rfl | simp
                case c3 => unfold maxLen; omega
                case c4 => omega
                case c5 => first | (simp; omega) | omega
                intro v7 W7 hown7 hg7 _ hat7
                have HJe : Hid (IsJ B.Head (fun i => i < w.heap.size ∨ v7.ownBlock = some i) W7 p2 { L with wv := .slice none 0 0 } S2 J2) := IsJ.grew (HJ9.out.alloc _) hg7 (by rw [World.size_alloc]; exact hat7) fun g hg => (hown7.lt g hg).2
                have HKe : Hid (Kept (fun i => i < w.heap.size) w W7) := (HKx.out.alloc (fun i hi => Nat.lt_of_lt_of_le hi hW5s) _).grown hg7 fun i hi => ⟨by simp; omega, fun e => by have := (HOW9.out.lt i e).1; omega⟩
                have HOWe : Hid (W7.ownsRow w.heap.size 9 1 v7 (sure ++ [under]).length (strVs (sure ++ [under]))) := by
                  unfold Hid
                  rw [strVs_app, List.length_append, ← HM.out]
                  have : strVs [under] = [.string ty] := by show [Value.string (strN under)] = _; rw [HTY.out]
                  rw [this]
                  exact hown7
                have HSLe : Hid ((sure ++ [under]).length ≤ j + 1) := by unfold Hid; rw [List.length_append]; have := HSL.out; simp; omega
                clear hown7 hg7 hat7
                go_wp2
                go_roundw
                case rel => exact ⟨j + 1, p2, (.slice none 0 0), S2, J2, start, e, (sure ++ [under]), [], by omega, by go_num, rfl, rfl, rfl, rfl, HJe.out, HIe.out, HOWe.out, HSLe.out, HKe.out⟩
                case measure => simp [intOf]; omega
        · -- nothing
          have HJx := HJ1
          have HKx := HKW1
          have HOWx := HOW1
          have HIe : Hid (JInv S J start sure under ∧ J.n = k ∧ J.epoch = e ∧ J.fr = 1 ∧ e ≤ 1 + (j + 1) ∧ S.written ≤ 5000 * (j + 1)) := ⟨HI.out.1, HI.out.2.1, HI.out.2.2.1, HI.out.2.2.2.1, by have := HI.out.2.2.2.2.1; omega, by have := HI.out.2.2.2.2.2; omega⟩
          have HJe : Hid (IsJ B.Head (fun i => i < w.heap.size ∨ u10.ownBlock = some i) W1 p { L with wv := wv } S J) := HJx.out.less fun i hi => .inl hi
          have HOWe : Hid (W1.ownsRow w.heap.size 9 1 u10 sure.length (strVs sure)) := HOWx.out
          have HSLe : Hid (sure.length ≤ j + 1) := Nat.le_succ_of_le HSL.out
          have HKe : Hid (Kept (fun i => i < w.heap.size) w W1) := HKx.out
          go_wp2
          rw [← HW1.out]
          go_roundw
          case rel => exact ⟨j + 1, p, wv, S, J, start, e, sure, under, by omega, by go_num, rfl, rfl, rfl, rfl, HJe.out, HIe.out, HOWe.out, HSLe.out, HKe.out⟩
          case measure => simp [intOf]; omega
      · have hlj2 : ¬ ((j : Nat) : Int) < (len1 : Nat) := by omega
        obtain ⟨X, hX⟩ : ∃ X, X = wr.heap.size := ⟨_, rfl⟩
        obtain ⟨W1, hW1⟩ : ∃ W1, W1 = wr.alloc (.cells #[.int .i64 3, .int .i64 0, .slice none 0 0, .slice none 0 0, .int .i64 0, .int .i64 0] 37) := ⟨_, rfl⟩
        have HW1 : Hid (W1 = wr.alloc (.cells #[.int .i64 3, .int .i64 0, .slice none 0 0, .slice none 0 0, .int .i64 0, .int .i64 0] 37)) := hW1
        have HXE : Hid (X = wr.heap.size) := hX
        have HJ1 : Hid (IsJ B.Head (fun i => (i < w.heap.size ∨ u10.ownBlock = some i) ∨ i = X) W1 p { L with wv := wv } S J) := by unfold Hid; rw [hW1, hX]; exact HJ.out.with _
        have HKW1 : Hid (Kept (fun i => i < w.heap.size) w W1) := by unfold Hid; rw [hW1]; exact HKP.out.alloc (fun i hi => Nat.lt_of_lt_of_le hi HKP.out.size) _
        have HOW1 : Hid (W1.ownsRow w.heap.size 9 1 u10 sure.length (strVs sure)) := by unfold Hid; rw [hW1]; exact HOW.out.alloc _
        have HKIk : Hid (∀ W, Kept (fun i => i < w.heap.size) w W → Ints W (.slice none 0 0) []) := fun W _ => Ints.nil W
        have HT1 : Hid (∀ W, Kept (fun i => i < w.heap.size) w W → StepsK (fun i => (i < w.heap.size ∨ u10.ownBlock = some i) ∨ i = X) W) := fun W hW => ((StepsK.below HT.out).kept hW).more fun i hi => .inl (.inl hi)
        clear hX hW1
        obtain ⟨_, ua, uc, hus, _⟩ := Strs.owned HOW1.out
        subst hus
        obtain ⟨hsp, hse, ps, hps, hcase, hIp⟩ := HI.out.1.opened [] 0 0
        have hfr := HI.out.2.2.2.1
        have hjn := HI.out.2.1
        have hje := HI.out.2.2.1
        rw [hfr, hjn, hje] at hps hIp
        have HD1 : Hid (IsDisk (fun k => (fun i => (i < w.heap.size ∨ (Value.slice ua sure.length uc).ownBlock = some i) ∨ i = X) k ∨ k = p) W1 { L with wv := wv } S) := HJ1.out.2.1
        have HOP : Hid (∀ W5, IsDisk (fun i => (i < w.heap.size ∨ (Value.slice ua sure.length uc).ownBlock = some i) ∨ i = X) W5 { L with wv := .slice none 0 0 } (S.crashed [] 0 0) → Kept (fun i => i < w.heap.size) w W5 → Calls Tryd.prog 16 #[.pointer (some ⟨L.b, 0, none⟩), .int .i64 1, .int .i64 (k : Nat), .int .i64 (e : Nat), .int .i64 (start : Nat)] W5 fun x w' => ∃ p2 lv, x = .returned (.tuple #[.pointer (some ⟨p2, 0, none⟩), lv, .int .i64 0]) ∧ IsJ B.Head (fun i => (i < w.heap.size ∨ (Value.slice ua sure.length uc).ownBlock = some i) ∨ i = X) w' p2 { L with wv := .slice none 0 0 } (S.crashed [] 0 0) (openJ (S.crashed [] 0 0).safe 1 k e start) ∧ W5.heap.size ≤ p2 ∧ OctRows w' lv ps ∧ Kept (fun i => (i < w.heap.size ∨ (Value.slice ua sure.length uc).ownBlock = some i) ∨ i = X) W5 w') := fun W5 hD hK => by
          have := B.open_ _ W5 { L with wv := .slice none 0 0 } (S.crashed [] 0 0) 1 k e start hD (by have := HK1.out; omega) (by have := HK1.out; omega) (by have := HI.out.1.fit; rw [hfr, hjn] at this; exact this) (by rw [← hje]; exact HI.out.1.ring.e1) (by rw [← hje]; exact HI.out.1.ring.e2) (by rw [← hjn]; exact HI.out.1.ring.st) (by show (-1 : Int) ≠ 0; decide) (HT1.out _ hK)
          rw [hse, hsp, hps] at this
          exact this
        have HIe0 : Hid (JInv (S.crashed [] 0 0) (openJ (S.crashed [] 0 0).safe 1 k e start) start ps [] ∧ (openJ (S.crashed [] 0 0).safe 1 k e start).n = k ∧ (openJ (S.crashed [] 0 0).safe 1 k e start).epoch = e ∧ (openJ (S.crashed [] 0 0).safe 1 k e start).fr = 1 ∧ e ≤ 1 + (j + 1) ∧ (S.crashed [] 0 0).written ≤ 5000 * (j + 1)) := ⟨hIp, rfl, rfl, rfl, by have := HI.out.2.2.2.2.1; omega, by have h1 := HI.out.2.2.2.2.2; show S.written ≤ _; omega⟩
        have HCR : Hid (Calls Tryd.prog 15 #[.pointer (some ⟨L.b, 0, none⟩), .agg #[(.slice none 0 0), .int .i64 0, .int .i64 0]] W1 fun e w' => e = .returned (.int .i64 (keptTo [] S.waits.length : Nat)) ∧ IsDisk (fun k => (fun i => (i < w.heap.size ∨ (Value.slice ua sure.length uc).ownBlock = some i) ∨ i = X) k ∨ k = p) w' { L with wv := .slice none 0 0 } (S.crashed [] 0 0) ∧ Kept (fun k => (fun i => (i < w.heap.size ∨ (Value.slice ua sure.length uc).ownBlock = some i) ∨ i = X) k ∨ k = p) W1 w') := crash_v HD1.out _ [] (HKIk.out _ HKW1.out) 0 0
        obtain ⟨S2, hS2⟩ : ∃ S2, S2 = S.crashed [] 0 0 := ⟨_, rfl⟩
        obtain ⟨J2, hJ2⟩ : ∃ J2, J2 = openJ (S.crashed [] 0 0).safe 1 k e start := ⟨_, rfl⟩
        rw [← hJ2] at HOP HIe0
        rw [← hS2] at HOP HIe0 HCR
        clear hsp hse hps hIp hfr hjn hje hS2 hJ2
        go_wp2_with fail
        rw [← HXE.out, ← HW1.out]
        refine HCR.out.mono ?_
        rintro x W5 ⟨rfl, hD5, hk5⟩
        have HD5 : Hid (IsDisk (fun i => (i < w.heap.size ∨ (Value.slice ua sure.length uc).ownBlock = some i) ∨ i = X) W5 { L with wv := .slice none 0 0 } S2) := hD5.less fun i hi => .inl hi
        have HK5 : Hid (Kept (fun i => i < w.heap.size) w W5) := HKW1.out.trans (hk5.mono fun i hi => .inl (.inl (.inl hi)))
        have HOW5 : Hid (W5.ownsRow w.heap.size 9 1 (.slice ua sure.length uc) sure.length (strVs sure)) := ownsRow_same HOW1.out fun g hg => hk5.block g (.inl (.inl (.inr hg)))
        clear hD5 hk5 HCR 
        go_wp2_with fail
        refine (HOP.out W5 HD5.out HK5.out).mono ?_
        rintro x W6 ⟨p2, lv, rfl, hJ6, hp6, hl6, hk6⟩
        have HL6 : Hid (OctRows W6 lv ps) := hl6
        obtain ⟨hpl, la, lc, hlv, hrows⟩ := hl6
        subst hlv
        have HRW : Hid (ps = [] ∨ ∃ b off, la = some ⟨b, off, none⟩ ∧ b < W6.heap.size ∧ ∀ j, j < ps.length → ∃ u, W6.cell? ⟨b, off + j, none⟩ = some u ∧ Octs W6 u (ps[j]?.getD [])) := hrows
        have HJx : Hid (IsJ B.Head (fun i => (i < w.heap.size ∨ (Value.slice ua sure.length uc).ownBlock = some i) ∨ i = X) W6 p2 { L with wv := .slice none 0 0 } S2 J2) := hJ6
        have HKx : Hid (Kept (fun i => i < w.heap.size) w W6) := HK5.out.trans (hk6.mono fun i hi => .inl (.inl hi))
        have HOWx : Hid (W6.ownsRow w.heap.size 9 1 (.slice ua sure.length uc) sure.length (strVs sure)) := ownsRow_same HOW5.out fun g hg => hk6.block g (.inl (.inr hg))
        obtain ⟨_, ua', uc', hue, hstr⟩ := Strs.owned HOWx.out
        simp only [Value.slice.injEq, true_and] at hue
        obtain ⟨rfl, rfl⟩ := hue
        have HST : Hid (sure = [] ∨ ∃ b, ua = some ⟨b, 0, none⟩ ∧ b < W6.heap.size ∧ ∀ j, j < sure.length → W6.cell? ⟨b, j, none⟩ = some (.string (strN (sure[j]?.getD [])))) := hstr
        have HSL2 : Hid (sure.length ≤ 30) := by unfold Hid; have := HSL.out; have := HE20.out; omega
        obtain ⟨N, hN⟩ : ∃ N, N = ps.length := ⟨_, rfl⟩
        obtain ⟨M, hM⟩ : ∃ M, M = sure.length := ⟨_, rfl⟩
        have HN : Hid (N = ps.length) := hN
        have HM : Hid (M = sure.length) := hM
        have HNM : Hid (N = M ∨ N = M + 1) := by
          unfold Hid
          rw [hN, hM]
          rcases hcase with h | ⟨_, h⟩
          · left; rw [h]
          · right; rw [h, List.length_append]; rfl
        have HEL : Hid (∀ q, q < N → (q < M → ps[q]?.getD [] = sure[q]?.getD []) ∧ (¬ q < M → ps[q]?.getD [] = under)) := fun q hq => by
          rw [hN] at hq
          rw [hM]
          rcases hcase with h | ⟨_, h⟩
          · rw [h] at hq ⊢; exact ⟨fun _ => rfl, fun hn => absurd hq hn⟩
          · rw [h, List.length_append] at hq
            rw [h]
            refine ⟨fun hl => by rw [List.getElem?_append_left hl], fun hl => ?_⟩
            have : q = sure.length := by simp at hq; omega
            rw [this, List.getElem?_append_right (Nat.le_refl _), Nat.sub_self]
            rfl
        rw [← hN] at hpl ⊢
        rw [← hM]
        have hM30 : M ≤ 30 := by rw [hM]; exact HSL2.out
        have hnm1 : ¬ ((N : Nat) : Int) < (M : Nat) := by have := HNM.out; omega
        have hnm2 : ¬ ((M : Nat) : Int) + 1 < (N : Nat) := by have := HNM.out; omega
        have hwm : wrap64 (((M : Nat) : Int) + 1) = ((M : Nat) : Int) + 1 := wrap_small (by omega) (by omega)
        have HCS : Hid (ps = sure ∨ under ≠ [] ∧ ps = sure ++ [under]) := hcase
        clear hJ6 hp6 hrows hk6 hstr hN hM hcase HOP
        go_wp2_with fail
        clear hnm1 hnm2 hwm
        go_loopw [20] (fun i wr2 => ∃ q : Nat, q ≤ N ∧ i = .int .i64 q ∧ wr2 = W6) (fun i _ => N - (intOf i).toNat)
        case atStart => exact ⟨0, Nat.zero_le _, rfl, rfl⟩
        case round =>
          obtain ⟨q, hqN, rfl, rfl⟩ := hrel
          by_cases hql : q < N
          · have hqi : ((q : Nat) : Int) < (N : Nat) := by omega
            obtain ⟨hel1, hel2⟩ := HEL.out q hql
            have hne : ps ≠ [] := fun e => by have := HN.out; rw [e] at this; simp at this; omega
            rcases HRW.out with h | ⟨b3, off3, rfl, hb3, hat3⟩
            · exact absurd h hne
            obtain ⟨u, hu, hou⟩ := hat3 q (by rw [← HN.out]; exact hql)
            obtain ⟨zs, hzs⟩ : ∃ zs, zs = ps[q]?.getD [] := ⟨_, rfl⟩
            rw [← hzs] at hou hel1 hel2
            have hcv : (convert 32 9 u).run Tryd.prog wr = .ok (.string (strN zs)) wr := conv_octs hou _ 5 _ Tryd.underlying32 Tryd.underlying5 Tryd.underlying9
            obtain ⟨ua3, uc3, hush⟩ := hou.shape
            obtain ⟨ul, hul⟩ : ∃ ul, ul = zs.length := ⟨_, rfl⟩
            rw [← hul] at hush
            subst hush
            clear hat3 hou hne hul hzs
            by_cases hqm : q < M
            · have hqmi : ((q : Nat) : Int) < (M : Nat) := by omega
              have hz2 := hel1 hqm
              rcases HST.out with h | ⟨b4, rfl, hb4, hat4⟩
              · exfalso; have := HM.out; rw [h] at this; simp at this; omega
              have hs4 := hat4 q (by rw [← HM.out]; exact hqm)
              rw [← hz2] at hs4
              clear hat4 hz2 hel1 hel2
              generalize strN zs = tz at *
              go_wp2
              go_roundw
              case rel => exact ⟨q + 1, by omega, by go_num, trivial⟩
              case measure => simp [intOf]; omega
            · have hqmi : ¬ ((q : Nat) : Int) < (M : Nat) := by omega
              have hz2 := hel2 hqm
              subst hz2
              clear hel1 hel2
              generalize strN zs = tz at *
              go_wp2
              go_roundw
              case rel => exact ⟨q + 1, by omega, by go_num, trivial⟩
              case measure => simp [intOf]; omega
          · have hqi : ¬ ((q : Nat) : Int) < (N : Nat) := by omega
            have HJ9 : Hid (IsJ B.Head (fun i => i < w.heap.size ∨ (Value.slice ua M uc).ownBlock = some i) wr p2 { L with wv := .slice none 0 0 } S2 J2) := by
              have := HJx.out.less (K' := fun i => i < w.heap.size ∨ (Value.slice ua sure.length uc).ownBlock = some i) fun i hi => .inl hi
              rw [← HM.out] at this
              exact this
            have HOW9 : Hid (wr.ownsRow w.heap.size 9 1 (.slice ua M uc) M (strVs sure)) := by
              have := HOWx.out
              rw [← HM.out] at this
              exact this
            rcases HCS.out with hps | ⟨hund, hps⟩
            · -- what was sure
              have hnm : ¬ ((M : Nat) : Int) < (N : Nat) := by have h1 := HN.out; have h2 := HM.out; rw [hps] at h1; omega
              have HIe : Hid (JInv S2 J2 start sure [] ∧ J2.n = k ∧ J2.epoch = e ∧ J2.fr = 1 ∧ e ≤ 1 + (j + 1) ∧ S2.written ≤ 5000 * (j + 1)) := by have := HIe0.out; rw [hps] at this; exact this
              have HJe := HJ9
              have HOWe : Hid (wr.ownsRow w.heap.size 9 1 (.slice ua M uc) sure.length (strVs sure)) := by unfold Hid; rw [← HM.out]; exact HOW9.out
              have HSLe : Hid (sure.length ≤ j + 1) := Nat.le_succ_of_le HSL.out
              have HKe := HKx
              clear hps
              go_wp2
              go_roundw
              case rel => exact ⟨j + 1, p2, (.slice none 0 0), S2, J2, start, e, sure, [], by omega, by go_num, rfl, rfl, rfl, rfl, HJe.out, HIe.out, HOWe.out, HSLe.out, HKe.out⟩
              case measure => simp [intOf]; omega
            · -- and what was under way
              have hnm : ((M : Nat) : Int) < (N : Nat) := by have h1 := HN.out; have h2 := HM.out; rw [hps, List.length_append] at h1; simp at h1; omega
              have HIe : Hid (JInv S2 J2 start (sure ++ [under]) [] ∧ J2.n = k ∧ J2.epoch = e ∧ J2.fr = 1 ∧ e ≤ 1 + (j + 1) ∧ S2.written ≤ 5000 * (j + 1)) := by have := HIe0.out; rw [hps] at this; exact this
              clear hps
              obtain ⟨ty, hty⟩ : ∃ ty, strN under = ty := ⟨_, rfl⟩
              rw [hty]
              have HTY : Hid (strN under = ty) := hty
              clear hty
              obtain ⟨i0, hi, hz0, hz1, hz2⟩ := info_parts Tryd.infoStr7
              have hW5s : w.heap.size ≤ wr.heap.size := HKx.out.size
              go_wp2_with (at_builtin; refine wpList_append_own_at _ rfl _ _ 31 rfl w.heap.size 9 i0 _ 1 16 Tryd.underlying31 hi hz0 hz1 hz2 rfl (by decide) (.slice ua M uc) M (strVs sure) rfl (HOW9.out.alloc _) _ 1 1 [.string ty] rfl rfl (cell_one_new _ _ _) ?c2 ?c3 ?c4 ?c5 ?_)
              case c2 => first | (intro u hu; simp at hu; subst hu; rfl) | rfl | simp
              case c3 => unfold maxLen; omega
              case c4 => omega
              case c5 => first | (simp; omega) | omega
              intro v7 W7 hown7 hg7 _ hat7
              have HJe : Hid (IsJ B.Head (fun i => i < w.heap.size ∨ v7.ownBlock = some i) W7 p2 { L with wv := .slice none 0 0 } S2 J2) := IsJ.grew (HJ9.out.alloc _) hg7 (by rw [World.size_alloc]; exact hat7) fun g hg => (hown7.lt g hg).2
              have HKe : Hid (Kept (fun i => i < w.heap.size) w W7) := (HKx.out.alloc (fun i hi => Nat.lt_of_lt_of_le hi hW5s) _).grown hg7 fun i hi => ⟨by simp; omega, fun e => by have := (HOW9.out.lt i e).1; omega⟩
              have HOWe : Hid (W7.ownsRow w.heap.size 9 1 v7 (sure ++ [under]).length (strVs (sure ++ [under]))) := by
                unfold Hid
                rw [strVs_app, List.length_append, ← HM.out]
                have : strVs [under] = [.string ty] := by show [Value.string (strN under)] = _; rw [HTY.out]
                rw [this]
                exact hown7
              have HSLe : Hid ((sure ++ [under]).length ≤ j + 1) := by unfold Hid; rw [List.length_append]; have := HSL.out; simp; omega
              clear hown7 hg7 hat7
              go_wp2
              go_roundw
              case rel => exact ⟨j + 1, p2, (.slice none 0 0), S2, J2, start, e, (sure ++ [under]), [], by omega, by go_num, rfl, rfl, rfl, rfl, HJe.out, HIe.out, HOWe.out, HSLe.out, HKe.out⟩
              case measure => simp [intOf]; omega
    · have hlj : ¬ ((j : Nat) : Int) ≤ (len1 : Nat) := by omega
      go_wp2
      go_ret
      exact ⟨rfl, HKP.out.below fun i hi => hi⟩
end Go.Proofs.YthhdkadjlddmkaaDoor
