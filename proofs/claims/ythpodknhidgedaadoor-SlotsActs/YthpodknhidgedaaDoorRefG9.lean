/- The document's 'Give'. -/
import Derived.Test.YthpodknhidgedaaDoorRefA9
namespace Go.Proofs.YthpodknhidgedaaDoor
open Go.RowKit
set_option linter.unusedVariables false

def GiveR (w : World) (p b n : Nat) (B : Nat → Bool) (zs : List Int) (x : Ending) (w' : World) : Prop :=
  ((GoodG n B zs ∧ x = .returned (.int .i64 0) ∧ RefB w' p b n (giveB B zs)) ∨ (¬ GoodG n B zs ∧ x = .returned (.int .i64 2) ∧ RefB w' p b n B)) ∧ Only b w w'
theorem goodG_step' {n j s : Nat} {B : Nat → Bool} {zs : List Int} (hg : GoodG n B (zs.take j)) (hj : j < zs.length) (hz : zs[j]?.getD 0 = (s : Int)) (hs : s < n) (hB : B s = true) (hn : ∀ i, i < j → zs[i]?.getD 0 ≠ (s : Int)) :
    GoodG n B (zs.take (j + 1)) := by
  refine (goodG_step hg hj hz hs (giveB_is hB fun hm => ?_)).1
  obtain ⟨i, h1, h2, h3⟩ := mem_take hm
  exact hn i h1 (by rw [h3]; rfl)
theorem giveB_mem {B : Nat → Bool} {zs : List Int} {s : Nat} (h : (s : Int) ∈ zs) : giveB B zs s = false := by
  unfold giveB
  rw [List.contains_iff_mem.2 h]
  simp
theorem giveR_no {w : World} {p b n : Nat} {B : Nat → Bool} {zs : List Int} (h : RefB w p b n B) (hn : ¬ GoodG n B zs) (m : Nat) : GiveR w p b n B zs (.returned (.int .i64 2)) (w.drewN m) :=
  ⟨.inr ⟨hn, rfl, h.drewN m⟩, Only.ofBelow (below_drewN w m)⟩
set_option maxRecDepth 20000 in
set_option maxHeartbeats 4000000 in
theorem refGive_any (w : World) (p b n : Nat) (B : Nat → Bool) (v : Value) (zs : List Int) (h : RefB w p b n B) (hn : n ≤ 65536) (hv : Nums w v zs) (hvb : zs ≠ [] → v.ownBlock ≠ some b) :
    Calls Tryd.prog 16 #[.pointer (some ⟨p, 0, none⟩), v] w fun x w' => GiveR w p b n B zs x w' := by
  have H : Hid (RefB w p b n B) := h
  have HV : Hid (Nums w v zs) := hv
  obtain ⟨a, c, rfl⟩ := hv.shape
  obtain ⟨L, hL⟩ : ∃ L, L = zs.length := ⟨_, rfl⟩
  rw [← hL] at HV hvb ⊢
  have hLm : L ≤ 9223372036854775807 := by have := HV.out.capLe; unfold maxLen at this; omega
  have HL : Hid (L = zs.length) := hL
  have HVB : Hid (zs ≠ [] → (Value.slice a L c).ownBlock ≠ some b) := hvb
  clear h hv hL hvb
  go_enter Tryd.func16, Tryd.ntmps16
  go_wp2_with fail
  go_loopw [5] (fun i wr => ∃ k : Nat, i = .int .i64 (k : Nat) ∧ k ≤ L ∧ Hid (GoodG n B (zs.take k)) ∧ ∃ m, wr = w.drewN m) (fun i _ => L - (intOf i).toNat)
  case atStart => exact ⟨0, rfl, Nat.zero_le _, goodG_nil _ _, 0, rfl⟩
  case round =>
    obtain ⟨k, rfl, hk, hG, m0, rfl⟩ := hrel
    by_cases hlt : k < L
    · obtain ⟨g, off, rfl, hgl, hcell⟩ := HV.out.addr (by omega)
      have hc := hcell k hlt
      have hs := H.out.s_cell
      have hsm := HV.out.small k
      have hkl : k < zs.length := by have := HL.out; omega
      have HSTOP : Hid (zs[k]?.getD 0 < 0 ∨ (n : Int) ≤ zs[k]?.getD 0 ∨ (∃ s : Nat, zs[k]?.getD 0 = (s : Int) ∧ giveB B (zs.take k) s = false) → ¬ GoodG n B zs) := goodG_stop hkl
      have HSTEP : Hid (∀ s : Nat, zs[k]?.getD 0 = (s : Int) → s < n → B s = true → (∀ i, i < k → zs[i]?.getD 0 ≠ (s : Int)) → GoodG n B (zs.take (k + 1))) := fun s => goodG_step' hG.out hkl
      have HCELL : Hid (∀ j, j < L → w.cell? ⟨g, off + j, none⟩ = some (.int .i64 (zs[j]?.getD 0))) := hcell
      have HTW : Hid (∀ i, i < k → zs[i]?.getD 0 ∈ zs.take k) := fun i hi => by
        have hil : i < zs.length := by omega
        rw [List.getElem?_eq_getElem hil, Option.getD_some]
        exact List.mem_take_iff_getElem.2 ⟨i, by omega, rfl⟩
      have HNO : Hid (¬ GoodG n B zs → ∀ m : Nat, GiveR w p b n B zs (.returned (.int .i64 2)) (w.drewN m)) := fun h m => giveR_no H.out h m
      obtain ⟨z, hz⟩ : ∃ z, z = zs[k]?.getD 0 := ⟨_, rfl⟩
      rw [← hz] at hc hsm HSTOP HSTEP
      have hz1 := hsm.1
      have hz2 := hsm.2
      clear hcell hgl hz hkl hsm
      by_cases hneg : z < 0
      · have HN : Hid (¬ GoodG n B zs) := HSTOP.out (.inl hneg)
        go_wp2_with fail
        refine wp_region_quiet_lit (by kernel_rfl) (by kernel_rfl) ?_
        generalize hA : Act.mk _ _ = fr9
        repeat (refine wpQuiet_step (fun K hK => ?_); subst hA; go_simp; generalize hA : Act.mk _ _ = fr9; refine hK _ ?_; clear hK K)
        refine wpQuiet_nil ?_
        subst hA
        intro _ hw9
        obtain ⟨nq, hx9⟩ := hw9
        subst hx9
        go_wp2
        go_ret
        rw [World.drewN_drewN]
        exact HNO.out HN.out _
      · obtain ⟨s, hs'⟩ : ∃ s : Nat, z = (s : Int) := ⟨z.toNat, by rw [Int.toNat_of_nonneg]; omega⟩
        subst hs'
        clear hneg hz1
        have hd : decide ((s : Int) < 0) = false := decide_eq_false (by omega)
        by_cases hbig : n ≤ s
        · have HN : Hid (¬ GoodG n B zs) := HSTOP.out (.inr (.inl (by omega)))
          go_wp2_with fail
          refine wp_region_quiet_lit (by kernel_rfl) (by kernel_rfl) ?_
          generalize hA : Act.mk _ _ = fr9
          repeat (refine wpQuiet_step (fun K hK => ?_); subst hA; go_simp; generalize hA : Act.mk _ _ = fr9; refine hK _ ?_; clear hK K)
          refine wpQuiet_nil ?_
          subst hA
          intro _ hw9
          obtain ⟨nq, hx9⟩ := hw9
          subst hx9
          go_wp2
          go_ret
          rw [World.drewN_drewN]
          exact HNO.out HN.out _
        · have hsn : s < n := by omega
          have hb := H.out.b_cell s hsn
          cases hB : B s
          · rw [hB] at hb
            have HN : Hid (¬ GoodG n B zs) := HSTOP.out (.inr (.inr ⟨s, rfl, by unfold giveB; rw [hB]; rfl⟩))
            clear hbig hB
            go_wp2_with fail
            refine wp_region_quiet_lit (by kernel_rfl) (by kernel_rfl) ?_
            generalize hA : Act.mk _ _ = fr9
            repeat (refine wpQuiet_step (fun K hK => ?_); subst hA; go_simp; generalize hA : Act.mk _ _ = fr9; refine hK _ ?_; clear hK K)
            refine wpQuiet_nil ?_
            subst hA
            intro _ hw9
            obtain ⟨nq, hx9⟩ := hw9
            subst hx9
            go_wp2
            go_ret
            rw [World.drewN_drewN]
            exact HNO.out HN.out _
          · rw [hB] at hb
            have HB : Hid (B s = true) := hB
            have HS2 : Hid ((s : Int) ∈ zs.take k → ¬ GoodG n B zs) := fun h => HSTOP.out (.inr (.inr ⟨s, rfl, giveB_mem h⟩))
            have HS3 : Hid ((∀ i, i < k → zs[i]?.getD 0 ≠ (s : Int)) → GoodG n B (zs.take (k + 1))) := HSTEP.out s rfl hsn HB.out
            have hd2 : decide ((n : Int) ≤ ((s : Nat) : Int)) = false := decide_eq_false (by omega)
            have hd3 : (n ≤ s) = False := eq_false (by omega)
            clear hB hbig HSTOP HSTEP HB
            go_wp2_with fail
            refine wp_region_quiet_lit (by kernel_rfl) (by kernel_rfl) ?_
            generalize hA : Act.mk _ _ = fr9
            repeat (refine wpQuiet_step (fun K hK => ?_); subst hA; go_simp; generalize hA : Act.mk _ _ = fr9; refine hK _ ?_; clear hK K)
            refine wpQuiet_nil ?_
            subst hA
            intro _ hw9
            obtain ⟨nq, hx9⟩ := hw9
            subst hx9
            go_wp2_with fail
            rw [World.drewN_drewN]
            go_loopw [6] (fun i wr => ∃ j : Nat, i = .int .i64 (j : Nat) ∧ j ≤ k ∧ Hid (∀ i, i < j → zs[i]?.getD 0 ≠ (s : Int)) ∧ ∃ m, wr = w.drewN m) (fun i _ => k - (intOf i).toNat)
            case atStart => exact ⟨0, rfl, Nat.zero_le _, fun i hi => absurd hi (by omega), _, rfl⟩
            case round =>
              obtain ⟨j, rfl, hjk, hJ, m1, rfl⟩ := hrel
              by_cases hjl : j < k
              · have hjL : j < L := by omega
                have hcj := HCELL.out j hjL
                have HTj := HTW.out j hjl
                have HTJ : Hid (zs[j]?.getD 0 ∈ zs.take k) := HTj
                have HJ2 : Hid (zs[j]?.getD 0 ≠ (s : Int) → ∀ i, i < j + 1 → zs[i]?.getD 0 ≠ (s : Int)) := fun h i hi => by
                  by_cases e : i = j
                  · rw [e]; exact h
                  · exact hJ.out i (by omega)
                clear HTj
                generalize zs[j]?.getD 0 = y at *
                by_cases hy : y = (s : Int)
                · have HN : Hid (¬ GoodG n B zs) := HS2.out (by rw [← hy]; exact HTJ.out)
                  subst hy
                  go_wp2_with fail
                  refine wp_region_quiet_lit (by kernel_rfl) (by kernel_rfl) ?_
                  generalize hA : Act.mk _ _ = fr9
                  repeat (refine wpQuiet_step (fun K hK => ?_); subst hA; go_simp; generalize hA : Act.mk _ _ = fr9; refine hK _ ?_; clear hK K)
                  refine wpQuiet_nil ?_
                  subst hA
                  intro _ hw9
                  obtain ⟨nq, hx9⟩ := hw9
                  subst hx9
                  go_wp2
                  go_ret
                  rw [World.drewN_drewN]
                  exact HNO.out HN.out _
                · have HJ3 : Hid (∀ i, i < j + 1 → zs[i]?.getD 0 ≠ (s : Int)) := HJ2.out hy
                  have hcmp : (y == (s : Int)) = false := by simp [hy]
                  clear HJ2 hy
                  go_wp2_with fail
                  refine wp_region_quiet_lit (by kernel_rfl) (by kernel_rfl) ?_
                  generalize hA : Act.mk _ _ = fr9
                  repeat (refine wpQuiet_step (fun K hK => ?_); subst hA; go_simp; generalize hA : Act.mk _ _ = fr9; refine hK _ ?_; clear hK K)
                  refine wpQuiet_nil ?_
                  subst hA
                  intro _ hw9
                  obtain ⟨nq, hx9⟩ := hw9
                  subst hx9
                  go_wp2
                  go_roundw
                  case rel => exact ⟨j + 1, by go_num, by omega, HJ3, _, rfl⟩
                  case measure => simp [intOf]; omega
              · have HG2 : Hid (GoodG n B (zs.take (k + 1))) := HS3.out fun i hi => hJ.out i (by omega)
                go_wp2
                go_roundw
                case rel => exact ⟨k + 1, by go_num, by omega, HG2, _, rfl⟩
                case measure => simp [intOf]; omega
    · obtain rfl : k = L := by omega
      have HZ : Hid (zs.take k = zs) := List.take_of_length_le (by have := HL.out; omega)
      have HE : Hid (GoodG n B zs) := by
        have := hG.out
        rwa [HZ.out] at this
      have H0 : Hid (RefB (w.drewN m0) p b n (giveB B (zs.take 0))) := by
        unfold Hid
        rw [List.take_zero, giveB_nil]; exact H.out.drewN _
      have H1 : Hid (Only b w (w.drewN m0)) := Only.ofBelow (below_drewN w m0)
      have hdk : (k < k) = False := eq_false (by omega)
      clear hlt hk
      go_wp2_with fail
      go_loopw [7] (fun i wr => ∃ j : Nat, i = .int .i64 (j : Nat) ∧ j ≤ k ∧ Hid (RefB wr p b n (giveB B (zs.take j))) ∧ Hid (Only b w wr)) (fun i _ => k - (intOf i).toNat)
      case atStart => exact ⟨0, rfl, Nat.zero_le _, H0, H1⟩
      case round =>
        obtain ⟨j, rfl, hj, hR, hO⟩ := hrel
        by_cases hlt : j < k
        · have HVr : Nums wr (.slice a k c) zs := HV.out.spared hO.out.size fun g hg hl => hO.out.heap hl fun e => HVB.out (fun e0 => by have := HL.out; rw [e0] at this; simp at this; omega) (e ▸ hg)
          obtain ⟨g, off, rfl, -, hcell⟩ := HVr.addr (by omega)
          have hc := hcell j hlt
          have hjl : j < zs.length := by have := HL.out; omega
          obtain ⟨s, hs, hsn⟩ : ∃ s : Nat, zs[j]?.getD 0 = (s : Int) ∧ s < n := by
            obtain ⟨s, h1, h2, _⟩ := HE.out.2 zs[j] (List.getElem_mem hjl)
            exact ⟨s, by rw [List.getElem?_eq_getElem hjl]; exact h1, h2⟩
          have hT : putB (giveB B (zs.take j)) s 1 false = giveB B (zs.take (j + 1)) := by
            rw [take_one hjl, hs]; exact giveB_put B _ s
          rw [hs] at hc
          have hsl := hR.out.s_cell
          have hbc := hR.out.b_cell s hsn
          have hbf := hR.out.b_free s
          have HP : Hid (RefB (wr.setCell ⟨b, s, none⟩ (.bool false)) p b n (giveB B (zs.take (j + 1)))) := by rw [← hT]; exact hR.out.put hsn false
          have HO2 : Hid (Only b w (wr.setCell ⟨b, s, none⟩ (.bool false))) := hO.out.setCell s _
          have hs16 : s < 65536 := by omega
          clear HVr hcell hs hT hjl
          go_wp2_with fail
          go_region_with (fail)
          all_goals
            go_wp2
            go_roundw
            case rel => exact ⟨j + 1, by go_num, by omega, HP.out.drew, HO2.out.drew⟩
            case measure => simp [intOf]; omega
        · obtain rfl : j = k := by omega
          have HE2 : Hid (RefB wr p b n (giveB B zs)) := by
            have := hR.out
            rwa [HZ.out] at this
          go_wp2
          go_ret
          exact ⟨.inl ⟨HE.out, rfl, HE2.out⟩, hO.out⟩
end Go.Proofs.YthpodknhidgedaaDoor
