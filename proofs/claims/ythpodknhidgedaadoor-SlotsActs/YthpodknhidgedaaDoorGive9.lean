/- What is given; what was given is taken again. -/
import Derived.Test.YthpodknhidgedaaDoorRest9
namespace Go.Proofs.YthpodknhidgedaaDoor
open Go.RowKit
set_option linter.unusedVariables false

theorem Nums.only2 {w w' : World} {v : Value} {zs : List Int} {b f : Nat} (h : Nums w v zs) (ho : Only2 b f w w') (hb : v.ownBlock ≠ some b) (hf : v.ownBlock ≠ some f) : Nums w' v zs :=
  h.spared ho.size fun g hg hlt => ho.heap hlt (fun e => hb (e ▸ hg)) (fun e => hf (e ▸ hg))
theorem giveB_tail {B : Nat → Bool} {n : Nat} (zs : List Int) (ht : ∀ i, n ≤ i → B i = false) : ∀ i, n ≤ i → giveB B zs i = false := fun i hi => by unfold giveB; rw [ht i hi]; rfl

set_option maxRecDepth 20000 in
set_option maxHeartbeats 1000000 in
theorem takeAgain_any (w : World) (q p b f cap n : Nat) (B : Nat → Bool) (zs : List Int) (j c : Nat) (g off : Nat) (h : BoardAt w q p b f cap n (giveB B (zs.take j))) (ht : Steps w) (hj : j ≤ zs.length)
    (hg : GoodG n B (zs.take j)) (hv : Nums w (.slice (some ⟨g, off, none⟩) j c) (zs.take j)) (hgb : g ≠ b) (hgf : g ≠ f) (h0 : 0 < b ∧ 0 < f) :
    Calls Tryd.prog 30 #[.pointer (some ⟨q, 0, none⟩), .slice (some ⟨g, off, none⟩) j c] w fun x w' => x = .returned (.tuple #[]) ∧ BoardAt w' q p b f cap n B ∧ Only2 b f w w' := by
  have H : Hid (BoardAt w q p b f cap n (giveB B (zs.take j))) := h
  have HT : Hid (Steps w) := ht
  have HG : Hid (GoodG n B (zs.take j)) := hg
  have HV : Hid (Nums w (.slice (some ⟨g, off, none⟩) j c) (zs.take j)) := hv
  have HJ : Hid (j ≤ zs.length) := hj
  have hn := h.row.small
  have hjm : j ≤ 9223372036854775807 := by have := hv.capLe; unfold maxLen at this; omega
  clear h ht hg hv hj
  go_enter Tryd.func30, Tryd.ntmps30
  go_wp2
  go_loopw [8] (fun i wr => ∃ k : Nat, i = .int .i64 (k : Nat) ∧ k ≤ j ∧ Hid (BoardAt wr q p b f cap n (giveB B ((zs.take j).drop k))) ∧ Hid (Only2 b f w wr)) (fun i _ => j - (intOf i).toNat)
  case atStart => exact ⟨0, rfl, Nat.zero_le _, by rw [List.drop_zero]; exact H, Only2.refl _ _ _⟩
  case round =>
    obtain ⟨k, rfl, hk, hR, hO⟩ := hrel
    by_cases hlt : k < j
    · have HVr : Nums wr (.slice (some ⟨g, off, none⟩) j c) (zs.take j) := HV.out.only2 hO.out (by simp [Value.ownBlock, hgb]) (by simp [Value.ownBlock, hgf])
      obtain ⟨g', off', e, -, hcell⟩ := HVr.addr (by omega)
      simp only [Option.some.injEq, Addr.mk.injEq, and_true] at e
      obtain ⟨rfl, rfl⟩ := e
      have hc := hcell k hlt
      obtain ⟨z, hz⟩ : ∃ z, z = (zs.take j)[k]?.getD 0 := ⟨_, rfl⟩
      have hz2 : zs[k]?.getD 0 = z := by rw [hz, List.getElem?_take_of_lt hlt]
      rw [← hz] at hc
      obtain ⟨s, hs⟩ : ∃ s : Nat, z = (s : Int) := by
        have hl : k < (zs.take j).length := by rw [List.length_take]; have := HJ.out; omega
        obtain ⟨s, h1, _⟩ := HG.out.2 (zs.take j)[k] (List.getElem_mem hl)
        exact ⟨s, by rw [hz, List.getElem?_eq_getElem hl]; exact h1⟩
      subst hs
      obtain ⟨h1, h2, h3⟩ := again_step HG.out HJ.out hlt hz2
      have HTr : Steps wr := HT.out.only2 hO.out h0.1 h0.2
      have HK : Hid (Calls Tryd.prog 24 #[.pointer (some ⟨q, 0, none⟩), .int .i64 (s : Nat), .int .i64 1] wr fun x w' => x = .returned (.int .i64 0) ∧ BoardAt w' q p b f cap n (giveB B ((zs.take j).drop (k + 1))) ∧ Only2 b f wr w') := by
        have := take_ok wr q p b f cap n _ s 1 hR.out HTr (by omega) (fun i a1 a2 => by rw [show i = s by omega]; exact h2)
        rwa [h3] at this
      clear HVr hcell hz hz2 h2 h3 HTr
      go_wp2_with fail
      refine HK.out.mono ?_
      rintro e w2 ⟨rfl, a1, a2⟩
      have A1 : Hid (BoardAt w2 q p b f cap n (giveB B ((zs.take j).drop (k + 1)))) := a1
      have A2 : Hid (Only2 b f w w2) := hO.out.trans a2
      clear a1 a2
      go_wp2
      go_roundw
      case rel => exact ⟨k + 1, by go_num, by omega, A1, A2⟩
      case measure => simp [intOf]; omega
    · obtain rfl : k = j := by omega
      have HE : Hid (BoardAt wr q p b f cap n B) := by
        have := hR.out
        rwa [again_end B zs k HJ.out] at this
      go_wp2
      go_end0
      exact ⟨rfl, HE.out, hO.out⟩

/-- What Give answers, and leaves. -/
def GiveIs (w : World) (q p b f cap n : Nat) (B : Nat → Bool) (zs : List Int) (x : Ending) (w' : World) : Prop :=
  ((GoodG n B zs ∧ x = .returned (.int .i64 0) ∧ BoardAt w' q p b f cap n (giveB B zs)) ∨ (¬ GoodG n B zs ∧ x = .returned (.int .i64 2) ∧ BoardAt w' q p b f cap n B)) ∧ Only2 b f w w'
set_option maxRecDepth 20000 in
set_option maxHeartbeats 2000000 in
theorem give_any (w : World) (q p b f cap n : Nat) (B : Nat → Bool) (v : Value) (zs : List Int) (h : BoardAt w q p b f cap n B) (ht : Steps w) (hv : Nums w v zs) (hgb : v.ownBlock ≠ some b) (hgf : v.ownBlock ≠ some f) (h0 : 0 < b ∧ 0 < f) :
    Calls Tryd.prog 15 #[.pointer (some ⟨q, 0, none⟩), v] w fun x w' => GiveIs w q p b f cap n B zs x w' := by
  have H : Hid (BoardAt w q p b f cap n B) := h
  have HT : Hid (Steps w) := ht
  have HV : Hid (Nums w v zs) := hv
  have hn := h.row.small
  obtain ⟨a, c, rfl⟩ := hv.shape
  obtain ⟨L, hL⟩ : ∃ L, L = zs.length := ⟨_, rfl⟩
  rw [← hL] at HV hgb hgf ⊢
  have hcl := HV.out.capLe
  have HL : Hid (L = zs.length) := hL
  have hLm : L ≤ 9223372036854775807 := by have := hcl; unfold maxLen at this; omega
  have hcm : c ≤ 9223372036854775807 := by have := hcl; unfold maxLen at this; omega
  clear h ht hv hL
  go_enter Tryd.func15, Tryd.ntmps15
  go_wp2
  go_loopw [10] (fun i wr => ∃ k : Nat, i = .int .i64 (k : Nat) ∧ k ≤ L ∧ Hid (GoodG n B (zs.take k)) ∧ Hid (BoardAt wr q p b f cap n (giveB B (zs.take k))) ∧ Hid (Only2 b f w wr)) (fun i _ => L - (intOf i).toNat)
  case atStart => exact ⟨0, rfl, Nat.zero_le _, goodG_nil _ _, by rw [List.take_zero, giveB_nil]; exact H, Only2.refl _ _ _⟩
  case round =>
    obtain ⟨k, rfl, hk, hG, hR, hO⟩ := hrel
    by_cases hlt : k < L
    · have HVr : Hid (Nums wr (.slice a L c) zs) := HV.out.only2 hO.out hgb hgf
      obtain ⟨g, off, rfl, -, hcell⟩ := HVr.out.addr (by omega)
      have hc := hcell k hlt
      have HTr : Hid (Steps wr) := HT.out.only2 hO.out h0.1 h0.2
      have hsm := HVr.out.small k
      have hkl : k < zs.length := by have := HL.out; omega
      have HSTOP : Hid (zs[k]?.getD 0 < 0 ∨ (n : Int) ≤ zs[k]?.getD 0 ∨ (∃ s : Nat, zs[k]?.getD 0 = (s : Int) ∧ giveB B (zs.take k) s = false) → ¬ GoodG n B zs) := goodG_stop hkl
      have HSTEP : Hid (∀ s : Nat, zs[k]?.getD 0 = (s : Int) → s < n → giveB B (zs.take k) s = true → GoodG n B (zs.take (k + 1)) ∧ putB (giveB B (zs.take k)) s 1 false = giveB B (zs.take (k + 1))) := fun s => goodG_step hG.out hkl
      clear hcell
      generalize zs[k]?.getD 0 = z at *
      have hz1 := hsm.1
      have hz2 := hsm.2
      have HAG : Hid (Calls Tryd.prog 30 #[.pointer (some ⟨q, 0, none⟩), .slice (some ⟨g, off, none⟩) k c] wr fun x w' => x = .returned (.tuple #[]) ∧ BoardAt w' q p b f cap n B ∧ Only2 b f wr w') :=
        takeAgain_any wr q p b f cap n B zs k c g off hR.out HTr.out (by omega) hG.out (HVr.out.front hk) (by simpa [Value.ownBlock] using hgb) (by simpa [Value.ownBlock] using hgf) h0
      have hkc : (k : Int) ≤ c := by omega
      by_cases hbad : z < 0 ∨ (n : Int) ≤ z ∨ (∃ s : Nat, z = (s : Int) ∧ giveB B (zs.take k) s = false)
      · have HN : Hid (¬ GoodG n B zs) := HSTOP.out hbad
        have HGV : Hid (Calls Tryd.prog 29 #[.pointer (some ⟨q, 0, none⟩), .int .i64 z] wr fun x w' => x = .returned (.int .i64 2) ∧ w' = wr) := by
          by_cases hoff : z < 0 ∨ (n : Int) ≤ z
          · exact give_off wr q p b f cap n _ z hR.out hz1 hz2 hoff
          · rcases hbad with h1 | h1 | ⟨s, rfl, h2⟩
            · exact absurd (.inl h1) hoff
            · exact absurd (.inr h1) hoff
            · exact give_free wr q p b f cap n _ s hR.out HTr.out (by omega) h2
        clear hbad HSTOP HSTEP hkl hsm
        go_wp2_with fail
        refine HGV.out.mono ?_
        rintro e w2 ⟨rfl, rfl⟩
        go_wp2_with fail
        refine HAG.out.mono ?_
        rintro e w3 ⟨rfl, a1, a2⟩
        have A1 : Hid (BoardAt w3 q p b f cap n B) := a1
        have A2 : Hid (Only2 b f w w3) := hO.out.trans a2
        clear a1 a2
        go_wp2
        go_ret
        exact ⟨.inr ⟨HN.out, rfl, A1.out⟩, A2.out⟩
      · obtain ⟨s, hs⟩ : ∃ s : Nat, z = (s : Int) := ⟨z.toNat, by rw [Int.toNat_of_nonneg]; omega⟩
        subst hs
        have hsn : s < n := by omega
        have hB : giveB B (zs.take k) s = true := by
          cases hb : giveB B (zs.take k) s
          · exact absurd (.inr (.inr ⟨s, rfl, hb⟩)) hbad
          · rfl
        obtain ⟨h1, h2⟩ := HSTEP.out s rfl hsn hB
        have H1 : Hid (GoodG n B (zs.take (k + 1))) := h1
        have HGV : Hid (Calls Tryd.prog 29 #[.pointer (some ⟨q, 0, none⟩), .int .i64 (s : Nat)] wr fun x w' => x = .returned (.int .i64 0) ∧ BoardAt w' q p b f cap n (giveB B (zs.take (k + 1))) ∧ Only2 b f wr w') := by
          have := give_ok wr q p b f cap n _ s hR.out HTr.out hsn hB
          rwa [h2] at this
        clear hbad HSTOP HSTEP hkl hsm hB h1 h2 HAG
        go_wp2_with fail
        refine HGV.out.mono ?_
        rintro e w2 ⟨rfl, a1, a2⟩
        have A1 : Hid (BoardAt w2 q p b f cap n (giveB B (zs.take (k + 1)))) := a1
        have A2 : Hid (Only2 b f w w2) := hO.out.trans a2
        clear a1 a2
        go_wp2
        go_roundw
        case rel => exact ⟨k + 1, by go_num, by omega, H1, A1, A2⟩
        case measure => simp [intOf]; omega
    · obtain rfl : k = L := by omega
      have HZ : Hid (zs.take k = zs) := List.take_of_length_le (by have := HL.out; omega)
      have HE : Hid (GoodG n B zs) := by
        have := hG.out
        rwa [HZ.out] at this
      have HE2 : Hid (BoardAt wr q p b f cap n (giveB B zs)) := by
        have := hR.out
        rwa [HZ.out] at this
      go_wp2
      go_ret
      exact ⟨.inl ⟨HE.out, rfl, HE2.out⟩, hO.out⟩
end Go.Proofs.YthpodknhidgedaaDoor
