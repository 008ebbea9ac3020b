/- The laws' first lines (layer 7), and the law JournalFits, over the bundle. -/
import Derived.Test.YthhdkadjlddmkaaDoorJrnM
namespace Go.Proofs.YthhdkadjlddmkaaDoor
open Go.RowKit
set_option linter.unusedVariables false

theorem appendR_ok {S : St} {J : JS} {zs : List Nat} (h1 : J.dead = false) (h2 : J.dirty = false) (h3 : 1 ≤ zs.length ∧ zs.length ≤ 65000) (h4 : partsN zs.length + 1 ≤ J.n - J.used) (h5 : S.left < 0) :
    appendR S J zs = ((appendD S J (J.bytes zs) (partsN zs.length)).1, J.after (partsN zs.length + 1), 0) := by
  unfold appendR
  rw [if_neg (by rw [h1]; decide), if_neg (by rw [h2]; decide), if_neg (by simp [h3]), if_neg (by omega), if_pos (appendD_on h5).1]
theorem appendR_log {S : St} {J : JS} {zs : List Nat} (h1 : J.dead = false) (h2 : J.dirty = false) (h3 : 1 ≤ zs.length ∧ zs.length ≤ 65000) (h4 : J.n - J.used < partsN zs.length + 1) : appendR S J zs = (S, J, 11) := by
  unfold appendR
  rw [if_neg (by rw [h1]; decide), if_neg (by rw [h2]; decide), if_neg (by simp [h3]), if_pos h4]
theorem appendR_arg {S : St} {J : JS} {zs : List Nat} (h1 : J.dead = false) (h2 : J.dirty = false) (h3 : zs.length = 0 ∨ 65000 < zs.length) : appendR S J zs = (S, J, 2) := by
  unfold appendR
  rw [if_neg (by rw [h1]; decide), if_neg (by rw [h2]; decide), if_pos (by omega)]

set_option maxRecDepth 20000 in
set_option maxHeartbeats 1000000 in
theorem awake7 (B : JOps) (w : World) (ht : Steps w) : Calls Tryd.prog 7 #[] w fun e w' => e = .returned (.bool true) ∧ Below w.heap.size w w' := by
  have HT : Hid (Steps w) := ht
  have hm1 : ∀ W : World, (Instr.makeSlice 32 (.int .i64 112) (.int .i64 112)).run Tryd.prog W = .ok (.slice (some ⟨W.heap.size, 0, none⟩) 112 112) (W.alloc (.cells (u8s (zl 112)).toArray 5)) := fun W => Tryd.makeN 112 (by decide) W
  have hm2 : ∀ W : World, (Instr.makeSlice 32 (.int .i64 700) (.int .i64 700)).run Tryd.prog W = .ok (.slice (some ⟨W.heap.size, 0, none⟩) 700 700) (W.alloc (.cells (u8s (zl 700)).toArray 5)) := fun W => Tryd.makeN 700 (by decide) W
  have hI0 : JInv (freshSt 10) (JS.fresh 1 8 1 0) 0 [] [] := JInv.new 10 1 8 1 0 (by decide) (by decide) (by decide) (by decide) (by decide) (by decide)
  have hp1 : partsN (zl 112).length = 1 := by rw [zl_length]; decide
  have hp2 : partsN (zl 700).length = 7 := by rw [zl_length]; decide
  have hz1 : (1 ≤ (zl 112).length ∧ (zl 112).length ≤ 65000) ∧ ∀ z ∈ zl 112, z < 256 := ⟨by rw [zl_length]; decide, zl_small _⟩
  have ha1 := appendR_ok (S := freshSt 10) (J := JS.fresh 1 8 1 0) (zs := zl 112) rfl rfl hz1.1 (by rw [hp1]; decide) (by decide)
  have hI1 := (hI0.append rfl rfl (zl 112) hz1 (by rw [hp1]; decide)).1 (appendD_on (by decide)).1
  have hst := appendD_stops (freshSt 10) (JS.fresh 1 8 1 0) ((JS.fresh 1 8 1 0).bytes (zl 112)) (partsN (zl 112).length) rfl
  have hw1 : (appendD (freshSt 10) (JS.fresh 1 8 1 0) ((JS.fresh 1 8 1 0).bytes (zl 112)) (partsN (zl 112).length)).1.written ≤ 10 := by
    have h1 := hst.written
    have h2 : (freshSt 10).written = 0 := rfl
    rw [h2, hp1] at h1
    rw [hp1]
    omega
  generalize (appendD (freshSt 10) (JS.fresh 1 8 1 0) ((JS.fresh 1 8 1 0).bytes (zl 112)) (partsN (zl 112).length)).1 = S1 at ha1 hI1 hw1
  rw [hp1] at ha1 hI1
  have ha2 : appendR S1 ((JS.fresh 1 8 1 0).after 2) (zl 700) = (S1, (JS.fresh 1 8 1 0).after 2, 11) := appendR_log rfl rfl (by rw [zl_length]; decide) (by rw [hp2]; decide)
  have HA1 : Hid (appendR (freshSt 10) (JS.fresh 1 8 1 0) (zl 112) = (S1, (JS.fresh 1 8 1 0).after 2, 0)) := ha1
  have HA2 : Hid (appendR S1 ((JS.fresh 1 8 1 0).after 2) (zl 700) = (S1, (JS.fresh 1 8 1 0).after 2, 11)) := ha2
  have HI : Hid (JOk (freshSt 10) (JS.fresh 1 8 1 0) ∧ JOk S1 ((JS.fresh 1 8 1 0).after 2) ∧ S1.waits.length + 5000 ≤ 1000000000 ∧ S1.written + 5000 ≤ 1000000000) := ⟨hI0.ok, hI1.ok, by rw [(hI1.alive rfl).1]; decide, by omega⟩
  clear ht hI0 hp1 hp2 hz1 ha1 hI1 hst hw1 ha2
  go_enter Tryd.func7, Tryd.ntmps7
  go_wp2_with fail
  refine (new_v (fun k => k < w.heap.size) w 10 (by decide) (by decide) (fun k hk => hk)).mono ?_
  rintro e w1 ⟨L, rfl, hD, hB1, hF⟩
  have HD : Hid (IsDisk (fun k => k < w.heap.size) w1 L (freshSt 10)) := hD
  have HB1 : Hid (Below w.heap.size w w1) := hB1
  clear hD hB1 hF
  go_wp2_with fail
  refine (B.new _ w1 L (freshSt 10) 1 8 1 0 HD.out (by decide) (by decide) (by decide) (by decide) (by decide) (by decide)).mono ?_
  rintro e w2 ⟨p, rfl, hJ, hp, hB2⟩
  have HJ : Hid (IsJ B.Head (fun k => k < w.heap.size) w2 p L (freshSt 10) (JS.fresh 1 8 1 0)) := hJ
  have HK2 : Hid (Kept (fun k => k < w.heap.size) w w2) := Kept.ofBelow (HB1.out.trans (hB2.mono HB1.out.size)) fun _ h => h
  clear hJ hp hB2 HD HB1
  go_wp2_with fail
  have HJ3 : Hid (IsJ B.Head (fun k => k < w.heap.size ∨ k = w2.heap.size) (w2.alloc (.cells (u8s (zl 112)).toArray 5)) p L (freshSt 10) (JS.fresh 1 8 1 0)) := HJ.out.with _
  have HT3 : Hid (StepsK (fun k => k < w.heap.size ∨ k = w2.heap.size) (w2.alloc (.cells (u8s (zl 112)).toArray 5))) := ((StepsK.below HT.out).kept (HK2.out.alloc (fun k hk => Nat.lt_of_lt_of_le hk HK2.out.size) _)).more fun k hk => .inl hk
  refine (B.append _ _ p L _ _ _ (zl 112) HJ3.out HI.out.1 (octs_made w2 112 (by decide) _) (by rintro x n c e _; cases e; exact .inr rfl) (by decide) (by decide) HT3.out).mono ?_
  rw [HA1.out]
  rintro e w3 ⟨wv, rfl, hJ, hK⟩
  have HJ4 : Hid (IsJ B.Head (fun k => k < w.heap.size) w3 p { L with wv := wv } S1 ((JS.fresh 1 8 1 0).after 2)) := hJ.less fun k hk => .inl hk
  have HK4 : Hid (Kept (fun k => k < w.heap.size) w w3) := (HK2.out.alloc (fun k hk => Nat.lt_of_lt_of_le hk HK2.out.size) _).trans (hK.mono fun k hk => .inl hk)
  clear hJ hK HJ3 HT3 HJ HK2
  go_wp2_with fail
  refine (B.used _ p L.b _ HJ4.out.1).mono ?_
  rintro e w4 ⟨rfl, hw4⟩
  rw [hw4]
  clear hw4
  go_wp2_with fail
  have HJ5 : Hid (IsJ B.Head (fun k => k < w.heap.size ∨ k = w3.heap.size) (w3.alloc (.cells (u8s (zl 700)).toArray 5)) p { L with wv := wv } S1 ((JS.fresh 1 8 1 0).after 2)) := HJ4.out.with _
  have HT5 : Hid (StepsK (fun k => k < w.heap.size ∨ k = w3.heap.size) (w3.alloc (.cells (u8s (zl 700)).toArray 5))) := ((StepsK.below HT.out).kept (HK4.out.alloc (fun k hk => Nat.lt_of_lt_of_le hk HK4.out.size) _)).more fun k hk => .inl hk
  refine (B.append _ _ p _ _ _ _ (zl 700) HJ5.out HI.out.2.1 (octs_made w3 700 (by decide) _) (by rintro x n c e _; cases e; exact .inr rfl) HI.out.2.2.1 HI.out.2.2.2 HT5.out).mono ?_
  rw [HA2.out]
  rintro e w5 ⟨wv2, rfl, hJ, hK⟩
  have HJ6 : Hid (IsJ B.Head (fun k => k < w.heap.size) w5 p { L with wv := wv2 } S1 ((JS.fresh 1 8 1 0).after 2)) := hJ.less fun k hk => .inl hk
  have HK6 : Hid (Kept (fun k => k < w.heap.size) w w5) := (HK4.out.alloc (fun k hk => Nat.lt_of_lt_of_le hk HK4.out.size) _).trans (hK.mono fun k hk => .inl hk)
  clear hJ hK HJ5 HT5 HJ4 HK4
  go_wp2_with fail
  refine (B.free _ p L.b _ HJ6.out.1 HI.out.2.1.used HI.out.2.1.n2).mono ?_
  rintro e w6 ⟨rfl, nq, hw6⟩
  rw [hw6]
  clear hw6
  go_wp2
  go_ret
  exact ⟨rfl, (HK6.out.trans ⟨rfl, rfl, rfl, Nat.le_refl _, fun _ _ => rfl⟩ : Kept (fun k => k < w.heap.size) w (w5.drewN nq)).below fun k hk => hk⟩
end Go.Proofs.YthhdkadjlddmkaaDoor
