/- The law SlotsFew over the contracts of package slots. -/
import Derived.Test.YthpodknhidgedaaDoorAwake9
namespace Go.Proofs.YthpodknhidgedaaDoor
open Go.RowKit
set_option linter.unusedVariables false

theorem mod_any (n : Int) (d : Nat) (h0 : 0 < d) (hd : d ≤ 100000) (h : I64 n) : ∃ m : Nat, (wrap64 (n.tmod (d : Int) + (d : Int))).tmod (d : Int) = (m : Int) ∧ m < d := by
  have h1 := Int.tmod_lt_of_pos n (show (0 : Int) < (d : Int) by omega)
  have h2 := Int.lt_tmod_of_pos n (show (0 : Int) < (d : Int) by omega)
  have e1 : wrap64 (n.tmod (d : Int) + (d : Int)) = n.tmod (d : Int) + (d : Int) := by
    generalize n.tmod (d : Int) = t at *
    unfold wrap64; omega
  rw [e1]
  refine ⟨((n.tmod (d : Int) + (d : Int)).tmod (d : Int)).toNat, ?_, ?_⟩
  · rw [Int.toNat_of_nonneg (Int.tmod_nonneg _ (by omega))]
  · have := Int.tmod_lt_of_pos (n.tmod (d : Int) + (d : Int)) (show (0 : Int) < (d : Int) by omega)
    omega
theorem wrap_nat (x : Nat) (h : x ≤ 1000000) : wrap64 (x : Int) = (x : Int) := by unfold wrap64; omega
/-- A cluster of which some are taken, not all. -/
def Part (B : Nat → Bool) (m d : Nat) : Prop := 0 < fr B m d ∧ fr B m d < 64
/-- There is at most one such cluster. -/
def Uni (B : Nat → Bool) (m : Nat) : Prop := ∀ c d, c < wn m → d < wn m → Part B m c → Part B m d → c = d
theorem uni_take {B : Nat → Bool} {m s : Nat} (ht : ∀ i, m ≤ i → B i = false) (hu : Uni B m) (h : IsTake B m s) : Uni (putB B s 1 true) m := by
  have key := fun c => fr_set ht h.lt h.free c
  have hp := fr_pos ht h.lt h.free
  have he : s / 64 < wn m := wn_lt h.lt
  have hle := fun c => fr_le B m c
  have other : ∀ d, d < wn m → d ≠ s / 64 → Part (putB B s 1 true) m d → False := by
    intro d hd hne hpd
    have k1 := key d
    rw [if_neg hne] at k1
    have hpd2 : Part B m d := ⟨by have := hpd.1; omega, by have := hpd.2; omega⟩
    have h2 := h.few d hd hpd2.1
    have h3 : Part B m (s / 64) := ⟨hp, by have := hpd2.2; omega⟩
    exact hne (hu d (s / 64) hd he hpd2 h3)
  intro c d hc hd pc pd
  by_cases h1 : c = s / 64
  · by_cases h2 : d = s / 64
    · rw [h1, h2]
    · exact (other d hd h2 pd).elim
  · exact (other c hc h1 pc).elim
theorem uni_none (t : Nat) : Uni noneB (64 * t) := by
  intro c d hc hd pc pd
  have h := pc.2
  rw [fr_none (64 * t) c noneB fun _ => rfl] at h
  unfold wn at hc
  omega
structure FewI (w : World) (q p b f cap m j : Nat) (B : Nat → Bool) (wr : World) : Prop where
  board : BoardAt wr q p b f cap m B
  num : cnt B 0 m = min j m
  uni : Uni B m
  bel : Below w.heap.size w wr
theorem FewI.step {w wr : World} {q p b f cap m j : Nat} {B : Nat → Bool} (h : FewI w q p b f cap m j B wr) (ht : Steps w) (hb : w.heap.size ≤ b) (hf : w.heap.size ≤ f) :
    Calls Tryd.prog 11 #[.pointer (some ⟨q, 0, none⟩)] wr fun x w' => ∃ (a e : Int) (B' : Nat → Bool), x = .returned (.tuple #[.int .i64 a, .int .i64 e]) ∧ FewI w q p b f cap m (j + 1) B' w' :=
  (take_any wr q p b f cap m B h.board (ht.kept h.bel ht.pos)).mono fun x w' hx => by
    rcases hx with ⟨s, rfl, h1, h2, h3⟩ | ⟨rfl, h1, rfl⟩
    · refine ⟨_, _, _, rfl, h2, ?_, uni_take h.board.row.tail h.uni h1, h.bel.trans (h3.below hb hf h.bel.size)⟩
      have e1 := cnt_put_in (o := 0) (k := m) h1.free (Nat.zero_le _) (by have := h1.lt; omega)
      have e2 := cnt_le (putB B s 1 true) 0 m
      have e3 := h.num
      rw [e1]
      omega
    · refine ⟨_, _, _, rfl, h.board, ?_, h.uni, h.bel⟩
      have e1 := cnt_full h1
      have e2 := h.num
      omega
set_option maxRecDepth 20000 in
set_option maxHeartbeats 1000000 in
theorem slotsFew_walk (n : Int) (k : Int) (w : World) (ht : Steps w) (f0 : (Lit.int .i64 n).wf = true) (f1 : (Lit.int .u8 k).wf = true) :
    Calls Tryd.prog 5 #[.int .i64 n, .int .u8 k] w fun e w' => e = .returned (.bool true) ∧ Below w.heap.size w w' := by
  have hn : I64 n := by simpa [Lit.wf, IntKind.min, IntKind.max, IntKind.signed, IntKind.bits, I64] using f0
  have hk : 0 ≤ k ∧ k ≤ 255 := by simpa [Lit.wf, IntKind.min, IntKind.max, IntKind.signed, IntKind.bits] using f1
  obtain ⟨K, hK⟩ : ∃ K : Nat, k = (K : Int) := ⟨k.toNat, by rw [Int.toNat_of_nonneg hk.1]⟩
  subst hK
  have hK : K ≤ 255 := by omega
  obtain ⟨r, hr, hr5⟩ := mod_any n 5 (by decide) (by decide) hn
  obtain ⟨t, ht5⟩ : ∃ t, t = 1 + r := ⟨_, rfl⟩
  obtain ⟨m, hm⟩ : ∃ m, m = 64 * t := ⟨_, rfl⟩
  have HM : Hid (wrap64 (64 * wrap64 (1 + (wrap64 (n.tmod 5 + 5)).tmod 5)) = (m : Int)) := by
    unfold Hid
    have e1 : (wrap64 (n.tmod 5 + 5)).tmod 5 = (r : Int) := hr
    rw [e1, show (1 : Int) + (r : Int) = ((t : Nat) : Int) by omega, wrap_nat t (by omega), show (64 : Int) * (t : Int) = ((m : Nat) : Int) by omega, wrap_nat m (by omega)]
  have hm1 : 1 ≤ m ∧ m ≤ 320 := by omega
  have HU : Hid (Uni noneB m) := by rw [hm]; exact uni_none t
  have HT : Hid (Steps w) := ht
  have H0 : Hid (0 < w.heap.size) := ht.pos
  have HAw : Hid (Calls Tryd.prog 7 #[] w fun x w' => x = .returned (.bool true) ∧ Below w.heap.size w w') := awake_any w ht
  clear hr hr5 ht5 hm f0 f1 hk ht hn
  go_enter Tryd.func5, Tryd.ntmps5
  go_wp2_with fail
  refine HAw.out.mono ?_
  rintro e w1 ⟨rfl, hB⟩
  have HB : Hid (Below w.heap.size w w1) := hB
  have HN : Hid (Calls Tryd.prog 8 #[.int .i64 (m : Nat), .slice none 0 0] w1 fun x w' => ∃ q p b f cap, x = .returned (.tuple #[.pointer (some ⟨q, 0, none⟩), .int .i64 0]) ∧ w1.heap.size ≤ b ∧ w1.heap.size ≤ f ∧ BoardAt w' q p b f cap m noneB ∧ Below w1.heap.size w1 w') := newB_empty w1 m hm1.1 (by omega) (HT.out.below hB)
  clear hB
  go_wp2_with fail
  rw [HM.out]
  refine HN.out.mono ?_
  rintro e w2 ⟨q, p, b, f, cap, rfl, hb, hf, hBd, hB⟩
  have HP : Hid (w.heap.size ≤ b ∧ w.heap.size ≤ f) := ⟨Nat.le_trans HB.out.size hb, Nat.le_trans HB.out.size hf⟩
  have HI : Hid (FewI w q p b f cap m 0 noneB w2) := ⟨hBd, by rw [cnt_none fun _ _ => rfl]; omega, HU.out, HB.out.trans (hB.mono HB.out.size)⟩
  have hwn := wn_le m (by omega)
  clear hBd hB hb hf HB HN HAw HM
  go_wp2
  go_loopw [8] (fun i wr => ∃ (j : Nat) (B : Nat → Bool), i = .int .i64 (j : Nat) ∧ j ≤ K ∧ Hid (FewI w q p b f cap m j B wr)) (fun i _ => K - (intOf i).toNat)
  case atStart => exact ⟨0, noneB, rfl, Nat.zero_le _, HI⟩
  case round =>
    obtain ⟨j, B, rfl, hj, hI⟩ := hrel
    by_cases hlt : j < K
    · have HK : Hid (Calls Tryd.prog 11 #[.pointer (some ⟨q, 0, none⟩)] wr fun x w' => ∃ (a e : Int) (B' : Nat → Bool), x = .returned (.tuple #[.int .i64 a, .int .i64 e]) ∧ FewI w q p b f cap m (j + 1) B' w') := hI.out.step HT.out HP.out.1 HP.out.2
      go_wp2_with fail
      refine HK.out.mono ?_
      rintro e w3 ⟨a3, e3, B3, rfl, hI3⟩
      have HI3 : Hid (FewI w q p b f cap m (j + 1) B3 w3) := hI3
      have HC : Hid (Calls Tryd.prog 20 #[.pointer (some ⟨q, 0, none⟩)] w3 fun e w' => ∃ u, e = .returned u ∧ w'.ownsRow w3.heap.size 3 1 u (wn m) (nums (frL B3 m (wn m))) ∧ Below w3.heap.size w3 w') := clusters_any w3 q p b f cap m B3 hI3.board
      clear hI3
      go_wp2_with fail
      refine HC.out.mono ?_
      rintro e w4 ⟨u, rfl, hOw, hBe⟩
      have HI4 : Hid (FewI w q p b f cap m (j + 1) B3 w4) := ⟨HI3.out.board.below hBe, HI3.out.num, HI3.out.uni, HI3.out.bel.trans (hBe.mono HI3.out.bel.size)⟩
      have HL0 : Hid (Nums w4 u (frL B3 m (wn m))) := Nums.ofOwn hOw (frL_small _ _ _)
      obtain ⟨a, cp, hsh⟩ := HL0.out.shape
      rw [frL_length] at hsh
      subst hsh
      have HCELL : Hid (∀ c, c < wn m → ∃ g off, a = some ⟨g, off, none⟩ ∧ World.cell? w4 ⟨g, off + c, none⟩ = some (.int .i64 (fr B3 m c : Nat))) := fun c hc => by
        obtain ⟨g, off, rfl, -, h2⟩ := HL0.out.addr (by omega)
        exact ⟨g, off, rfl, by rw [h2 c hc, frL_at hc]⟩
      have HUN : Hid (Uni B3 m) := HI3.out.uni
      clear hOw hBe HL0 HC HK HI3
      obtain ⟨M, hM⟩ : ∃ M, M = wn m := ⟨_, rfl⟩
      rw [← hM] at hwn HCELL ⊢
      have HMM : Hid (M = wn m) := hM
      clear hM
      go_wp2_with fail
      go_loop [9, 11] (fun pt i => ∃ c y : Nat, i = .int .i64 (c : Nat) ∧ c ≤ M ∧ pt = .int .i64 (y : Nat) ∧ y ≤ 1 ∧ Hid (y = 1 → ∃ d, d < c ∧ Part B3 m d)) (fun _ i => M - (intOf i).toNat)
      case atStart => exact ⟨0, 0, rfl, Nat.zero_le _, rfl, by omega, fun h => absurd h (by omega)⟩
      case round =>
        obtain ⟨c, y, rfl, hc, rfl, hy, HY⟩ := hrel
        by_cases hcM : c < M
        · obtain ⟨g, off, rfl, hcell⟩ := HCELL.out c hcM
          have hle := fr_le B3 m c
          have HPc : Hid (0 < fr B3 m c → fr B3 m c < 64 → y = 0) := fun h1 h2 => by
            apply Nat.eq_zero_of_not_pos
            intro hpos
            obtain ⟨d, hd, hpd⟩ := HY.out (by omega)
            have := HUN.out d c (by rw [← HMM.out]; omega) (by rw [← HMM.out]; exact hcM) hpd ⟨h1, h2⟩
            omega
          have HP1 : Hid (0 < fr B3 m c → fr B3 m c < 64 → (1 : Nat) = 1 → ∃ d, d < c + 1 ∧ Part B3 m d) := fun h1 h2 _ => ⟨c, by omega, h1, h2⟩
          have HP0 : Hid (y = 1 → ∃ d, d < c + 1 ∧ Part B3 m d) := fun h => by
            obtain ⟨d, h1, h2⟩ := HY.out h
            exact ⟨d, by omega, h2⟩
          generalize fr B3 m c = z at *
          by_cases hz0 : 0 < z
          · by_cases hz1 : z < 64
            · have hy0 : y = 0 := HPc.out hz0 hz1
              have HP2 : Hid ((1 : Nat) = 1 → ∃ d, d < c + 1 ∧ Part B3 m d) := HP1.out hz0 hz1
              subst hy0
              clear HPc HP1 HP0 HY
              go_wp2
              go_round
              case rel => exact ⟨c + 1, 1, by go_num, by omega, rfl, by omega, HP2⟩
              case measure => simp [intOf]; omega
            · clear HPc HP1 HY
              go_wp2
              go_round
              case rel => exact ⟨c + 1, y, by go_num, by omega, rfl, hy, HP0⟩
              case measure => simp [intOf]; omega
          · clear HPc HP1 HY
            go_wp2
            go_round
            case rel => exact ⟨c + 1, y, by go_num, by omega, rfl, hy, HP0⟩
            case measure => simp [intOf]; omega
        · go_wp2
          go_roundw
          case rel => exact ⟨j + 1, B3, by go_num, by omega, HI4⟩
          case measure => simp [intOf]; omega
    · obtain rfl : j = K := by omega
      obtain ⟨F, hF⟩ : ∃ F, F = m - min j m := ⟨_, rfl⟩
      have HF : Hid (Calls Tryd.prog 18 #[.pointer (some ⟨q, 0, none⟩)] wr fun x w' => x = .returned (.int .i64 (F : Nat)) ∧ ∃ x, w' = wr.drewN x) := by
        have := free_any wr q p b f cap m B hI.out.board
        rwa [hI.out.num, ← hF] at this
      have HBe : Hid (Below w.heap.size w wr) := hI.out.bel
      by_cases hjm : j ≤ m
      · have hFe : ((m : Nat) : Int) - (j : Nat) = (F : Nat) := by omega
        have hF0 : F ≤ 320 := by omega
        have hF1 : ¬ ((F : Nat) : Int) < 0 := by omega
        clear hF hI
        go_wp2_with fail
        refine HF.out.mono ?_
        rintro e w5 ⟨rfl, x, rfl⟩
        by_cases h00 : F = 0
        · subst h00
          go_wp2
          go_ret
          exact ⟨rfl, HBe.out.trans ((below_drewN wr x).mono HBe.out.size)⟩
        · have h01 : 0 < F := by omega
          go_wp2
          go_ret
          exact ⟨rfl, HBe.out.trans ((below_drewN wr x).mono HBe.out.size)⟩
      · have hF0 : F = 0 := by omega
        subst hF0
        have hneg : ((m : Nat) : Int) - (j : Nat) < 0 := by omega
        clear hF hI
        go_wp2_with fail
        refine HF.out.mono ?_
        rintro e w5 ⟨rfl, x, rfl⟩
        go_wp2
        go_ret
        exact ⟨rfl, HBe.out.trans ((below_drewN wr x).mono HBe.out.size)⟩
end Go.Proofs.YthpodknhidgedaaDoor
