/- The law BitsEach over the contracts of package bits. -/
import Derived.Test.YtebiccpnehphiaaDoorAwake8
import Derived.Test.YtebiccpnehphiaaDoorRef8
namespace Go.Proofs.YtebiccpnehphiaaDoor
open Go.RowKit
set_option linter.unusedVariables false

theorem mod500 (n : Int) : ∃ m : Nat, (n.tmod 500 + 500).tmod 500 = (m : Int) ∧ m < 500 := by
  have h1 := Int.tmod_lt_of_pos n (show (0 : Int) < 500 by decide)
  have h2 : -500 < n.tmod 500 := by
    have := Int.lt_tmod_of_pos n (show (0 : Int) < 500 by decide)
    exact this
  refine ⟨((n.tmod 500 + 500).tmod 500).toNat, ?_, ?_⟩
  · rw [Int.toNat_of_nonneg (Int.tmod_nonneg _ (by omega))]
  · have := Int.tmod_lt_of_pos (n.tmod 500 + 500) (show (0 : Int) < 500 by decide)
    omega
theorem row_at {k : IntKind} {w : World} {a : Option Addr} {len cap : Nat} {zs : List Int} (h : IsRow k w a len cap zs) {j : Nat} (hj : j < len) : ∃ b off, a = some ⟨b, off, none⟩ ∧ b < w.heap.size ∧ w.cell? ⟨b, off + j, none⟩ = some (.int k (zs[j]?.getD 0)) ∧ (Lit.int k (zs[j]?.getD 0)).wf = true := by
  rcases h with ⟨rfl, rfl, rfl, rfl⟩ | ⟨x, rfl, hl, hm, hz, hc, hw⟩
  · omega
  · obtain ⟨b, off, rfl, hc'⟩ := ints_at hc (by omega)
    have hj' : j < zs.length := by omega
    have h1 := hc' j hj'
    rw [List.getD_eq_getElem?_getD] at h1
    refine ⟨b, off, rfl, cell_lt h1, h1, ?_⟩
    rw [List.getElem?_eq_getElem hj', Option.getD_some]
    exact hw _ (List.getElem_mem hj')
theorem mod_each (n : Int) : ∃ m : Nat, wrap64 (1 + (wrap64 (n.tmod 500 + 500)).tmod 500) = (m : Int) ∧ 1 ≤ m ∧ m ≤ 500 := by
  obtain ⟨m, h, hm⟩ := mod500 n
  have h1 := Int.tmod_lt_of_pos n (show (0 : Int) < 500 by decide)
  have h2 := Int.lt_tmod_of_pos n (show (0 : Int) < 500 by decide)
  have e1 : wrap64 (n.tmod 500 + 500) = n.tmod 500 + 500 := by
    generalize n.tmod 500 = t at *
    unfold wrap64; omega
  rw [e1, h]
  refine ⟨m + 1, ?_, by omega, by omega⟩
  unfold wrap64; omega
/-- What stands behind one bit that is set, if it isn't yet. -/
def one8 (B : Nat → Bool) (k : Nat) : Nat → Bool := if B k then B else putB B k 1 true
/-- Which places the numbers name. -/
theorem putB_one_le {B : Nat → Bool} {k m : Nat} (hk : k < m) (ht : ∀ i, m ≤ i → B i = false) : ∀ i, m ≤ i → putB B k 1 true i = false := by
  intro i hi
  unfold putB
  rw [if_neg (by omega)]
  exact ht i hi

/-- Next, as the laws' loops ask it: where the next one is, and how many were met. -/
def NextIs (B : Nat → Bool) (m a : Nat) (x : Ending) : Prop :=
  (∃ r : Nat, x = .returned (.int .i64 (r : Nat)) ∧ a ≤ r ∧ r < m ∧ B r = true ∧ cnt B 0 r = cnt B 0 a) ∨ (x = .returned (.int .i64 (-1)) ∧ (a ≤ m → cnt B 0 m = cnt B 0 a))
theorem next_is (w : World) (p b n : Nat) (B : Nat → Bool) (a : Nat) (h : RowAt w p b n B) (ht : Steps w) (ha : a < 9223372036854775808) :
    Calls Tryd.prog 10 #[.pointer (some ⟨p, 0, none⟩), .int .i64 (a : Nat)] w fun x w' => NextIs B n a x ∧ w' = w :=
  (next_any w p b n B a h ht ha).mono fun x w' hx => by
    obtain ⟨⟨r, rfl, h1, h2, h3, h4⟩ | ⟨rfl, h1⟩, rfl⟩ := hx
    · exact ⟨.inl ⟨r, rfl, h1, h2, h3, cnt_seek h1 h4⟩, rfl⟩
    · exact ⟨.inr ⟨rfl, fun h2 => cnt_seek h2 fun i h3 _ => h1 i h3⟩, rfl⟩
/-- How far they have still to go. -/
def mea (m : Nat) (i : Int) : Nat := if i < 0 then 0 else m + 1 - i.toNat
theorem mea_end (m : Nat) : mea m (-1) = 0 := rfl
theorem mea_at (m r : Nat) : mea m (r : Nat) = m + 1 - r := by unfold mea; rw [if_neg (by omega)]; rfl
/-- How far the laws' loops have come. -/
def Met (B : Nat → Bool) (m : Nat) (l : Int) (c : Nat) (i : Int) : Prop := c ≤ m ∧ ((i = -1 ∧ c = cnt B 0 m) ∨ ∃ r : Nat, i = (r : Nat) ∧ l < r ∧ r < m ∧ B r = true ∧ c = cnt B 0 r)
theorem cnt_succ (B : Nat → Bool) (r : Nat) (h : B r = true) : cnt B 0 (r + 1) = cnt B 0 r + 1 := by
  rw [cnt, Nat.zero_add, h]; rfl

set_option maxRecDepth 20000 in
set_option maxHeartbeats 2000000 in
theorem bitsEach_walk (n : Int) (a1 : Option Addr) (len1 cap1 : Nat) (z1 : List Int) (w : World) (ht : Steps w) (f0 : (Lit.int .i64 n).wf = true) (f1 : IsRow .u16 w a1 len1 cap1 z1) :
    Calls Tryd.prog 5 #[.int .i64 n, .slice a1 len1 cap1] w fun e w' => e = .returned (.bool true) ∧ Below w.heap.size w w' := by
  have hn : -9223372036854775808 ≤ n ∧ n ≤ 9223372036854775807 := by simpa [Lit.wf, IntKind.min, IntKind.max, IntKind.signed, IntKind.bits] using f0
  have HT : Hid (Steps w) := ht
  have H0 : Hid (0 < w.heap.size) := ht.pos
  have hlen : len1 ≤ 9223372036854775807 := by
    rcases f1 with ⟨_, rfl, _⟩ | ⟨x, _, h1, h2, _⟩
    · decide
    · unfold maxLen at h2; omega
  have HAw : Hid (Calls Tryd.prog 6 #[] w fun x w' => x = .returned (.bool true) ∧ Below w.heap.size w w') := awake_any w ht
  by_cases hl : 60 < len1
  · clear f1
    go_enter Tryd.func5, Tryd.ntmps5
    go_wp2_with fail
    refine HAw.out.mono ?_
    rintro e w1 ⟨rfl, hB⟩
    have HB : Hid (Below w.heap.size w w1) := hB
    have HAw2 : Hid (Calls Tryd.prog 6 #[] w1 fun x w' => x = .returned (.bool true) ∧ Below w1.heap.size w1 w') := awake_any w1 (HT.out.below hB)
    clear hB
    go_wp2_with fail
    refine HAw2.out.mono ?_
    rintro e w2 ⟨rfl, hB2⟩
    have HB2 : Hid (Below w.heap.size w w2) := HB.out.trans (hB2.mono HB.out.size)
    clear hB2
    go_wp2
    go_ret
    exact ⟨rfl, HB2.out⟩
  · obtain ⟨m, hm, hm1, hm2⟩ := mod_each n
    have HM : Hid (wrap64 (1 + (wrap64 (n.tmod 500 + 500)).tmod 500) = (m : Int)) := hm
    have HR : Hid (IsRow .u16 w a1 len1 cap1 z1) := f1
    clear f1 hm ht f0 hn
    go_enter Tryd.func5, Tryd.ntmps5
    go_wp2_with fail
    refine HAw.out.mono ?_
    rintro e w1 ⟨rfl, hB⟩
    have HB : Hid (Below w.heap.size w w1) := hB
    have HN : Hid (Calls Tryd.prog 12 #[.int .i64 (m : Nat)] w1 fun x w' => ∃ p b, x = .returned (.tuple #[.pointer (some ⟨p, 0, none⟩), .int .i64 0]) ∧ w1.heap.size ≤ p ∧ w1.heap.size ≤ b ∧ RowAt w' p b m noneB ∧ Below w1.heap.size w1 w') := new_ok w1 m (by omega) (by have := hB.size; have := H0.out; omega)
    clear hB
    go_wp2_with fail
    rw [HM.out]
    refine HN.out.mono ?_
    rintro e w2 ⟨p, b, rfl, hp, hb, hR, hB2⟩
    have HR2 : Hid (RowAt w2 p b m noneB) := hR
    have HB2 : Hid (Below w.heap.size w w2) := HB.out.trans (hB2.mono HB.out.size)
    have HP2 : Hid (w.heap.size ≤ p ∧ w.heap.size ≤ b) := ⟨Nat.le_trans HB.out.size hp, Nat.le_trans HB.out.size hb⟩
    clear hR hB2 hp hb HM
    go_wp2_with fail
    refine (refNew_any w2 m (by omega)).mono ?_
    rintro e w3 ⟨q, c, rfl, hq, hc, hR, hB3⟩
    have HR3 : Hid (RowAt w3 p b m noneB) := HR2.out.below hB3
    have HF3 : Hid (RefAt w3 q c m noneB) := hR
    have HQ : Hid (p ≠ c ∧ b ≠ c ∧ q ≠ b ∧ c ≠ b) := by
      have h1 := HR2.out.p_lt
      have h2 := HR2.out.b_lt
      exact ⟨by omega, by omega, by omega, by omega⟩
    have HQ2 : Hid (w.heap.size ≤ c) := by have := HB2.out.size; unfold Hid; omega
    have HB3 : Hid (Below w.heap.size w w3) := HB2.out.trans (hB3.mono HB2.out.size)
    clear hR hB3 hq hc
    go_wp2
    go_loopw [9] (fun i wr => ∃ (j : Nat) (B : Nat → Bool), i = .int .i64 (j : Nat) ∧ j ≤ len1 ∧ Hid (RowAt wr p b m B) ∧ Hid (RefAt wr q c m B) ∧ Hid (Below w.heap.size w wr)) (fun i _ => len1 - (intOf i).toNat)
    case atStart => exact ⟨0, noneB, rfl, Nat.zero_le _, HR3, HF3, HB3⟩
    case round =>
      obtain ⟨j, B, rfl, hj, hR, hF, hBw⟩ := hrel
      by_cases hlt : j < len1
      · obtain ⟨g, off, rfl, hg, hcell, hwf⟩ := row_at HR.out hlt
        have hcell2 := (hBw.out.cell (p := ⟨g, off + j, none⟩) hg).trans hcell
        have hu : 0 ≤ z1[j]?.getD 0 ∧ z1[j]?.getD 0 ≤ 65535 := by simpa [Lit.wf, IntKind.min, IntKind.max, IntKind.signed, IntKind.bits] using hwf
        obtain ⟨u, hu2⟩ : ∃ u : Nat, z1[j]?.getD 0 = (u : Int) := ⟨_, (Int.toNat_of_nonneg hu.1).symm⟩
        rw [hu2] at hcell2 hu
        clear hcell hwf hg hu2
        have hmod : ((u : Nat) : Int).tmod (m : Nat) = ((u % m : Nat) : Int) := Int.ofNat_tmod u m
        have hk : u % m < m := Nat.mod_lt _ (by omega)
        have HTr : Hid (Steps _) := HT.out.kept hBw.out H0.out
        have hmz : ((m : Nat) : Int) ≠ 0 := by omega
        generalize u % m = k at *
        cases hBk : B k
        · go_wp2_with fail
          refine (set_ok _ p b m B k 1 hR.out HTr.out (by omega) (fun i h1 h2 => by rw [show i = k by omega]; exact hBk)).mono ?_
          rintro e w5 ⟨rfl, hR5, hO5⟩
          have HR5 : Hid (RowAt w5 p b m (putB B k 1 true)) := hR5
          have HF5 : Hid (RefAt w5 q c m B) := hF.out.only hO5 HQ.out.2.2.1 HQ.out.2.2.2
          have HB5 : Hid (Below w.heap.size w w5) := hBw.out.trans (hO5.below HP2.out.2 hBw.out.size)
          clear hR5 hO5
          go_wp2_with fail
          refine (refTurn_one _ q c m B k HF5.out hk (by omega)).mono ?_
          rintro e w6 ⟨rfl, hF6, hO6⟩
          rw [hBk] at hF6 ⊢
          have HF6 : Hid (RefAt w6 q c m (putB B k 1 true)) := hF6
          have HR6 : Hid (RowAt w6 p b m (putB B k 1 true)) := HR5.out.only hO6 HQ.out.1 HQ.out.2.1
          have HB6 : Hid (Below w.heap.size w w6) := HB5.out.trans (hO6.below HQ2.out HB5.out.size)
          clear hF6 hO6
          go_wp2
          go_roundw
          case rel => exact ⟨j + 1, _, by go_num, by omega, HR6, HF6, HB6⟩
          case measure => simp [intOf]; omega
        · go_wp2_with fail
          refine (set_no _ p b m B k 1 k hR.out HTr.out (by omega) (Nat.le_refl _) (by omega) hBk).mono ?_
          rintro e w5 ⟨rfl, rfl⟩
          go_wp2_with fail
          refine (refTurn_one _ q c m B k hF.out hk (by omega)).mono ?_
          rintro e w6 ⟨rfl, hF6, hO6⟩
          rw [hBk] at hF6 ⊢
          have HF6 : Hid (RefAt w6 q c m B) := hF6
          have HR6 : Hid (RowAt w6 p b m B) := hR.out.only hO6 HQ.out.1 HQ.out.2.1
          have HB6 : Hid (Below w.heap.size w w6) := hBw.out.trans (hO6.below HQ2.out hBw.out.size)
          clear hF6 hO6
          go_wp2
          go_roundw
          case rel => exact ⟨j + 1, _, by go_num, by omega, HR6, HF6, HB6⟩
          case measure => simp [intOf]; omega
      · have HTr : Hid (Steps _) := HT.out.kept hBw.out H0.out
        have HNx : Hid (∀ a : Nat, a ≤ m → Calls Tryd.prog 10 #[.pointer (some ⟨p, 0, none⟩), .int .i64 (a : Nat)] wr fun x w' => NextIs B m a x ∧ w' = wr) := fun a ha => next_is _ p b m B a hR.out HTr.out (by omega)
        have HRef : Hid (∀ r, r < m → World.cell? wr ⟨c, r, none⟩ = some (.bool (B r))) := fun r hr => hF.out.b_cell r hr
        have hsr := hF.out.s_cell
        go_wp2_with fail
        refine (HNx.out 0 (Nat.zero_le _)).mono ?_
        rintro e w6 ⟨hN, rfl⟩
        obtain ⟨i0, hi0, hM0⟩ : ∃ i0 : Int, e = .returned (.int .i64 i0) ∧ Met B m (-1) 0 i0 := by
          rcases hN with ⟨r, rfl, h1, h2, h3, h4⟩ | ⟨rfl, h1⟩
          · exact ⟨_, rfl, Nat.zero_le _, .inr ⟨r, rfl, by omega, h2, h3, h4.symm⟩⟩
          · exact ⟨_, rfl, Nat.zero_le _, .inl ⟨rfl, (h1 (Nat.zero_le _)).symm⟩⟩
        subst hi0
        have HM0 : Hid (Met B m (-1) 0 i0) := hM0
        clear hN hM0
        go_wp2
        go_loop [11, 12, 13] (fun l n i => ∃ (l' : Int) (c' : Nat) (i' : Int), l = .int .i64 l' ∧ n = .int .i64 (c' : Nat) ∧ i = .int .i64 i' ∧ Hid (Met B m l' c' i')) (fun _ _ i => mea m (intOf i))
        case atStart => exact ⟨-1, 0, i0, rfl, rfl, rfl, HM0⟩
        case round =>
          obtain ⟨l, c', i', rfl, rfl, rfl, hMt⟩ := hrel
          have hcm := hMt.out.1
          rcases hMt.out.2 with ⟨rfl, hce⟩ | ⟨r, rfl, hlr, hrm, hBr, hce⟩
          · have HCE : Hid (c' = cnt B 0 m) := hce
            clear hce
            go_wp2_with fail
            refine (refCount_any _ q c m B hF.out (by omega)).mono ?_
            rintro e w7 ⟨rfl, rfl⟩
            rw [← HCE.out]
            go_wp2
            go_ret
            exact ⟨rfl, hBw.out⟩
          · have HCE : Hid (c' = cnt B 0 r) := hce
            have HBR : Hid (B r = true) := hBr
            have hcell := HRef.out r hrm
            rw [hBr] at hcell
            have hlr' : ¬ ((r : Nat) : Int) ≤ l := by omega
            have HNr : Hid (Calls Tryd.prog 10 #[.pointer (some ⟨p, 0, none⟩), .int .i64 ((r : Int) + 1)] w6 fun x w' => NextIs B m (r + 1) x ∧ w' = w6) := by
              have := HNx.out (r + 1) (by omega)
              rwa [Int.natCast_add] at this
            have hcr : c' < m := by
              have h1 := cnt_le B 0 r
              omega
            clear hce hBr hlr
            go_wp2_with fail
            refine HNr.out.mono ?_
            rintro e w7 ⟨hN, rfl⟩
            obtain ⟨i2, hi2, hM2, hmeas⟩ : ∃ i2 : Int, e = .returned (.int .i64 i2) ∧ Met B m (r : Nat) (c' + 1) i2 ∧ mea m i2 < mea m (r : Nat) := by
              have hs := cnt_succ B r HBR.out
              have hc := HCE.out
              rcases hN with ⟨r2, rfl, h1, h2, h3, h4⟩ | ⟨rfl, h1⟩
              · exact ⟨_, rfl, ⟨by omega, .inr ⟨r2, rfl, by omega, h2, h3, by omega⟩⟩, by rw [mea_at, mea_at]; omega⟩
              · exact ⟨_, rfl, ⟨by omega, .inl ⟨rfl, by have := h1 (by omega); omega⟩⟩, by rw [mea_end, mea_at]; omega⟩
            subst hi2
            have HM2 : Hid (Met B m (r : Nat) (c' + 1) i2) := hM2
            have HME : Hid (mea m i2 < mea m (r : Nat)) := hmeas
            clear hN hM2 hmeas
            go_wp2
            go_round
            case rel => exact ⟨(r : Nat), c' + 1, i2, rfl, by go_num, rfl, HM2⟩
            case measure =>
              exact HME.out
end Go.Proofs.YtebiccpnehphiaaDoor
