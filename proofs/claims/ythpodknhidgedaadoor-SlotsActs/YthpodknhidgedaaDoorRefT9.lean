/- The document's 'Take' and 'Run'. -/
import Derived.Test.YthpodknhidgedaaDoorRefN9
namespace Go.Proofs.YthpodknhidgedaaDoor
open Go.RowKit
set_option linter.unusedVariables false

set_option maxRecDepth 20000 in
set_option maxHeartbeats 2000000 in
theorem refTake_any (w : World) (p b n : Nat) (B : Nat → Bool) (h : RefB w p b n B) (hn : n ≤ 65536) (ht : ∀ i, n ≤ i → B i = false) :
    Calls Tryd.prog 12 #[.pointer (some ⟨p, 0, none⟩)] w fun x w' => (∃ s : Nat, x = .returned (.tuple #[.int .i64 (s : Nat), .int .i64 0]) ∧ IsTake B n s ∧ RefB w' p b n (putB B s 1 true) ∧ Only b w w') ∨ (x = .returned (.tuple #[.int .i64 0, .int .i64 12]) ∧ (∀ i, i < n → B i = true) ∧ RefB w' p b n B ∧ Only b w w') := by
  have H : Hid (RefB w p b n B) := h
  have HT : Hid (∀ i, n ≤ i → B i = false) := ht
  have HC : Hid (Calls Tryd.prog 21 #[.pointer (some ⟨p, 0, none⟩)] w fun e w' => ∃ u, e = .returned u ∧ w'.ownsRow w.heap.size 3 1 u (wn n) (nums (frL B n (wn n))) ∧ Below w.heap.size w w') := refClusters_any w p b n B h hn ht
  have hwn := wn_le n hn
  clear h ht
  go_enter Tryd.func12, Tryd.ntmps12
  go_wp2_with fail
  refine HC.out.mono ?_
  rintro e w1 ⟨u, rfl, hOw, hBe⟩
  have HR : Hid (RefB w1 p b n B) := H.out.below hBe
  have HO1 : Hid (Only b w w1) := Only.ofBelow hBe
  have HL0 : Hid (Nums w1 u (frL B n (wn n))) := Nums.ofOwn hOw (frL_small _ _ _)
  obtain ⟨a, cap, hsh⟩ := HL0.out.shape
  rw [frL_length] at hsh
  subst hsh
  have HCELL : Hid (∀ c, c < wn n → ∃ g off, a = some ⟨g, off, none⟩ ∧ World.cell? w1 ⟨g, off + c, none⟩ = some (.int .i64 (fr B n c : Nat))) := fun c hc => by
    obtain ⟨g, off, rfl, -, h2⟩ := HL0.out.addr (by omega)
    exact ⟨g, off, rfl, by rw [h2 c hc, frL_at hc]⟩
  clear hOw hBe HL0 HC
  obtain ⟨m, hm⟩ : ∃ m, m = wn n := ⟨_, rfl⟩
  rw [← hm] at hwn HCELL ⊢
  have HM : Hid (m = wn n) := hm
  clear hm
  go_wp2_with fail
  go_loop [5] (fun f => ∃ fw : Nat, f = .int .i64 (fw : Nat) ∧ 1 ≤ fw ∧ fw ≤ 65 ∧ Hid (∀ d, d < m → fr B n d = 0 ∨ fw ≤ fr B n d)) (fun f => 65 - (intOf f).toNat)
  case atStart => exact ⟨1, rfl, Nat.le_refl _, by omega, fun d hd => by omega⟩
  case round =>
    obtain ⟨fw, rfl, hf1, hf2, HF⟩ := hrel
    by_cases hf64 : fw ≤ 64
    · go_wp2_with fail
      go_loop [6] (fun c => ∃ k : Nat, c = .int .i64 (k : Nat) ∧ k ≤ m ∧ Hid (∀ d, d < k → fr B n d = 0 ∨ fw < fr B n d)) (fun c => m - (intOf c).toNat)
      case atStart => exact ⟨0, rfl, Nat.zero_le _, fun d hd => absurd hd (by omega)⟩
      case round =>
        obtain ⟨k, rfl, hk, HK⟩ := hrel
        by_cases hlt : k < m
        · obtain ⟨g, off, rfl, hcell⟩ := HCELL.out k hlt
          have hle := fr_le B n k
          have HKN : Hid (fr B n k ≠ fw → ∀ d, d < k + 1 → fr B n d = 0 ∨ fw < fr B n d) := fun h d hd => by
            by_cases e : d = k
            · rw [e] at *
              rcases HF.out k hlt with h1 | h1
              · exact .inl h1
              · exact .inr (by omega)
            · exact HK.out d (by omega)
          by_cases he : fr B n k = fw
          · have hpos : 0 < fr B n k := by omega
            obtain ⟨s, hs1, hs2, hs3, hs4, hs5⟩ := fr_first hpos
            have hsk : s / 64 = k := by omega
            have HI : Hid (IsTake B n s) := ⟨hs3, hs4, by rw [hsk]; exact hs5, by rw [hsk, he, ← HM.out]; intro d hd h0; rcases HF.out d hd with h1 | h1 <;> omega, by rw [hsk, he]; intro d hd h0; rcases HK.out d hd with h1 | h1 <;> omega⟩
            have HS : Hid (∀ i, 64 * k ≤ i → i < s → B i = true) := hs5
            have HS2 : Hid (B s = false) := hs4
            have hsl := HR.out.s_cell
            have HBC : Hid (∀ i, i < n → World.cell? w1 ⟨b, i, none⟩ = some (.bool (B i))) := fun i hi => HR.out.b_cell i hi
            have hbf := HR.out.b_free s
            have HP : Hid (RefB (w1.setCell ⟨b, s, none⟩ (.bool true)) p b n (putB B s 1 true)) := HR.out.put hs3 true
            have HO2 : Hid (Only b w (w1.setCell ⟨b, s, none⟩ (.bool true))) := HO1.out.setCell s _
            rw [he] at hcell
            clear hs4 hs5 hsk hpos HKN he hle
            go_wp2_with fail
            go_loop [7] (fun x => ∃ i : Nat, x = .int .i64 (i : Nat) ∧ 64 * k ≤ i ∧ i ≤ s) (fun x => s - (intOf x).toNat)
            case atStart => exact ⟨64 * k, by go_num, Nat.le_refl _, hs1⟩
            case round =>
              obtain ⟨i, rfl, hi1, hi2⟩ := hrel
              have hin : i < n := by omega
              have hbc := HBC.out i hin
              by_cases hilt : i < s
              · rw [HS.out i hi1 hilt] at hbc
                go_wp2
                go_round
                case rel => exact ⟨i + 1, by go_num, by omega, by omega⟩
                case measure => simp [intOf]; omega
              · obtain rfl : i = s := by omega
                rw [HS2.out] at hbc
                go_wp2
                go_ret2
                exact .inl ⟨i, rfl, HI.out, HP.out, HO2.out⟩
          · have HK2 := HKN.out he
            have HK3 : Hid (∀ d, d < k + 1 → fr B n d = 0 ∨ fw < fr B n d) := HK2
            have hne : (((fr B n k : Nat) : Int) != (fw : Nat)) = true := by simp; omega
            clear HK2 HKN he
            generalize fr B n k = y at *
            go_wp2
            go_round
            case rel => exact ⟨k + 1, by go_num, by omega, HK3⟩
            case measure => simp [intOf]; omega
        · obtain rfl : k = m := by omega
          have HF2 : Hid (∀ d, d < k → fr B n d = 0 ∨ fw + 1 ≤ fr B n d) := fun d hd => by rcases HK.out d hd with h1 | h1 <;> omega
          go_wp2
          go_round
          case rel => exact ⟨fw + 1, by go_num, by omega, by omega, HF2⟩
          case measure => simp [intOf]; omega
    · have HE : Hid (∀ i, i < n → B i = true) := fr_full HT.out fun c hc => by
        have h1 := HF.out c (by rw [HM.out]; exact hc)
        have h2 := fr_le B n c
        omega
      go_wp2
      go_ret2
      exact .inr ⟨rfl, HE.out, HR.out, HO1.out⟩

/-! ### Run -/
theorem refRun_arg (w : World) (p : Nat) (k : Int) (hk : k < 1 ∨ 64 < k) :
    Calls Tryd.prog 14 #[.pointer (some ⟨p, 0, none⟩), .int .i64 k] w fun x w' => x = .returned (.tuple #[.int .i64 0, .int .i64 2]) ∧ w' = w := by
  by_cases h : k < 1
  · go_enter Tryd.func14, Tryd.ntmps14
    go_wp2
    go_ret2
    exact ⟨rfl, rfl⟩
  · have h2 : 64 < k := by omega
    go_enter Tryd.func14, Tryd.ntmps14
    go_wp2
    go_ret2
    exact ⟨rfl, rfl⟩
set_option maxRecDepth 20000 in
set_option maxHeartbeats 2000000 in
theorem refRun_any (w : World) (p b n : Nat) (B : Nat → Bool) (k : Nat) (h : RefB w p b n B) (hn : n ≤ 65536) (hk : 1 ≤ k) (hk2 : k ≤ 64) :
    Calls Tryd.prog 14 #[.pointer (some ⟨p, 0, none⟩), .int .i64 (k : Nat)] w fun x w' => (∃ s : Nat, x = .returned (.tuple #[.int .i64 (s : Nat), .int .i64 0]) ∧ IsRun B n k s ∧ RefB w' p b n (putB B s k true) ∧ Only b w w') ∨ (x = .returned (.tuple #[.int .i64 0, .int .i64 12]) ∧ NoRun B n k ∧ w' = w) := by
  have H : Hid (RefB w p b n B) := h
  have hsl := h.s_cell
  have HBC : Hid (∀ i, i < n → w.cell? ⟨b, i, none⟩ = some (.bool (B i))) := fun i hi => h.b_cell i hi
  clear h
  go_enter Tryd.func14, Tryd.ntmps14
  go_wp2_with fail
  go_loop [6] (fun x => ∃ a : Nat, x = .int .i64 (a : Nat) ∧ a ≤ n + 1 ∧ Hid (∀ y, y < a → ∃ i, y ≤ i ∧ i < y + k ∧ B i = true)) (fun x => n + 1 - (intOf x).toNat)
  case atStart => exact ⟨0, rfl, Nat.zero_le _, fun y hy => absurd hy (by omega)⟩
  case round =>
    obtain ⟨a, rfl, ha, HA⟩ := hrel
    by_cases hle : a + k ≤ n
    · have hle1 : ((a : Nat) : Int) ≤ (n : Nat) - (k : Nat) := by omega
      have hak : a + k ≤ 65536 := by omega
      go_wp2_with fail
      go_loop [7] (fun x => ∃ i : Nat, x = .int .i64 (i : Nat) ∧ a ≤ i ∧ i ≤ a + k ∧ Hid (∀ j, a ≤ j → j < i → B j = false)) (fun x => a + k - (intOf x).toNat)
      case atStart => exact ⟨a, rfl, Nat.le_refl _, by omega, fun j h1 h2 => absurd h1 (by omega)⟩
      case round =>
        obtain ⟨i, rfl, hi1, hi2, HI⟩ := hrel
        by_cases hilt : i < a + k
        · have hin : i < n := by omega
          have hbc := HBC.out i hin
          have hilt2 : ((i : Nat) : Int) < (a : Nat) + (k : Nat) := by omega
          cases hB : B i
          · rw [hB] at hbc
            have HI2 : Hid (∀ j, a ≤ j → j < i + 1 → B j = false) := fun j h1 h2 => by
              by_cases e : j = i
              · rw [e]; exact hB
              · exact HI.out j h1 (by omega)
            clear hB
            go_wp2
            go_round
            case rel => exact ⟨i + 1, by go_num, by omega, by omega, HI2⟩
            case measure => simp [intOf]; omega
          · rw [hB] at hbc
            have hne : (((i : Nat) : Int) == (a : Nat) + (k : Nat)) = false := by simp; omega
            have HA2 : Hid (∀ y, y < a + 1 → ∃ i, y ≤ i ∧ i < y + k ∧ B i = true) := fun y hy => by
              by_cases e : y = a
              · rw [e]; exact ⟨i, hi1, hilt, hB⟩
              · exact HA.out y (by omega)
            clear hB
            go_wp2
            go_round
            case rel => exact ⟨a + 1, by go_num, by omega, HA2⟩
            case measure => simp [intOf]; omega
        · obtain rfl : i = a + k := by omega
          have HRUN : Hid (IsRun B n k a) := ⟨hle, HI.out, HA.out⟩
          have hno : (((a + k : Nat) : Int) < (a : Nat) + (k : Nat)) = False := eq_false (by omega)
          have H0 : Hid (RefB w p b n (putB B a 0 true)) := by unfold Hid; rw [putB_zero]; exact H.out
          clear hilt hi1 hi2
          go_wp2_with fail
          go_loopw [7] (fun x wr => ∃ j : Nat, x = .int .i64 ((a + j : Nat) : Int) ∧ j ≤ k ∧ Hid (RefB wr p b n (putB B a j true)) ∧ Hid (Only b w wr)) (fun x _ => a + k - (intOf x).toNat)
          case atStart => exact ⟨0, by go_num, Nat.zero_le _, H0, Only.refl _ _⟩
          case round =>
            obtain ⟨j, rfl, hj, hR, hO⟩ := hrel
            by_cases hjk : j < k
            · have hsl2 := hR.out.s_cell
              have hbf := hR.out.b_free (a + j)
              have hbc := hR.out.b_cell (a + j) (by omega)
              have HP : Hid (RefB (wr.setCell ⟨b, a + j, none⟩ (.bool true)) p b n (putB B a (j + 1) true)) := by rw [← putB_more]; exact hR.out.put (by omega) true
              have HO2 : Hid (Only b w (wr.setCell ⟨b, a + j, none⟩ (.bool true))) := hO.out.setCell _ _
              have hx1 : ((a + j : Nat) : Int) < (a : Nat) + (k : Nat) := by omega
              have hxn : a + j < n := by omega
              have hxb : a + j < 65536 := by omega
              have HX : Hid (∀ x, a + j = x → ((x : Nat) : Int) + 1 = ((a + (j + 1) : Nat) : Int)) := fun x hx => by omega
              generalize hx : a + j = x at *
              go_wp2
              go_roundw
              case rel => exact ⟨j + 1, by (rw [← HX.out _ rfl]) <;> go_num, by omega, HP, HO2⟩
              case measure => simp [intOf]; omega
            · obtain rfl : j = k := by omega
              go_wp2
              go_ret2
              exact .inl ⟨a, rfl, HRUN.out, hR.out, hO.out⟩
    · have hle1 : ¬ (((a : Nat) : Int) ≤ (n : Nat) - (k : Nat)) := by omega
      have HE : Hid (NoRun B n k) := fun y hy => HA.out y (by omega)
      go_wp2
      go_ret2
      exact .inr ⟨rfl, HE.out, rfl⟩
end Go.Proofs.YthpodknhidgedaaDoor
