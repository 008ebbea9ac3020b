/- The walk of the law 'CrcTurned': it returns true for every input, where the program's table lies as it was laid. -/
import Derived.Test.YtbgnfipnkmfmlaaDoorWalkOpen
import Derived.Deep.RegionHeld3
namespace Go.Proofs.YtbgnfipnkmfmlaaDoor
open Go.RowKit
set_option linter.unusedVariables false

/-- Where the bits begin that are turned. -/
theorem begin_at (t : Int) (n : Nat) (hn : n ≤ 300) : ∃ k : Nat, k + 31 < 8 * (n + 4) ∧ (wrap64 (t.tmod (8 * ((n : Int) + 4) - 31) + (8 * ((n : Int) + 4) - 31))).tmod (8 * ((n : Int) + 4) - 31) = (k : Int) := by
  have hD : (0 : Int) < 8 * ((n : Int) + 4) - 31 := by omega
  have h1 := Int.tmod_lt_of_pos t hD
  have h2 := Int.lt_tmod_of_pos t hD
  have hw : wrap64 (t.tmod (8 * ((n : Int) + 4) - 31) + (8 * ((n : Int) + 4) - 31)) = t.tmod (8 * ((n : Int) + 4) - 31) + (8 * ((n : Int) + 4) - 31) := by unfold wrap64; omega
  rw [hw]
  have h3 : 0 ≤ t.tmod (8 * ((n : Int) + 4) - 31) + (8 * ((n : Int) + 4) - 31) := by omega
  have h4 := Int.tmod_nonneg (8 * ((n : Int) + 4) - 31) h3
  have h5 := Int.tmod_lt_of_pos (t.tmod (8 * ((n : Int) + 4) - 31) + (8 * ((n : Int) + 4) - 31)) hD
  obtain ⟨k, hk⟩ := Int.eq_ofNat_of_zero_le h4
  exact ⟨k, by omega, hk⟩

theorem and_one (a : Nat) (ha : a < 4294967296) : bits .and .u32 (a : Int) 1 = ((a % 2 : Nat) : Int) := by
  have e : bits .and .u32 (a : Int) 1 = IntKind.u32.wrap (((BitVec.ofInt 32 (a : Int) &&& 1#32).toNat : Nat) : Int) := rfl
  rw [e, BitVec.ofInt_natCast, BitVec.toNat_and, BitVec.toNat_ofNat, Nat.mod_eq_of_lt (by simpa using ha)]
  have h : a &&& (1#32).toNat = a % 2 := Nat.and_two_pow_sub_one_eq_mod a 1
  rw [h, IntKind.wrap_u32]
  omega
theorem one_shl (r : Nat) (h : r < 8) : ∃ d : Nat, d < 256 ∧ IntKind.u8.wrap ((2 : Int) ^ r) = (d : Int) ∧ d = 2 ^ r := by
  have : r = 0 ∨ r = 1 ∨ r = 2 ∨ r = 3 ∨ r = 4 ∨ r = 5 ∨ r = 6 ∨ r = 7 := by omega
  rcases this with rfl | rfl | rfl | rfl | rfl | rfl | rfl | rfl <;> exact ⟨_, by decide, by decide, rfl⟩
theorem own_form {w : World} {base : Nat} {e : TypeId} {v : Value} {n : Nat} {xs : List Value} (h : w.ownsRow base e 1 v n xs) (hn : 0 < n) : ∃ g cap, v = .slice (some ⟨g, 0, none⟩) n cap ∧ base ≤ g ∧ n ≤ cap := by
  rcases h.2 with ⟨rfl, h0⟩ | ⟨g, cap, cur, rfl, hb, hg, hc, _⟩
  · omega
  · exact ⟨g, cap, rfl, hb, hc⟩

set_option maxHeartbeats 1000000 in
theorem turned_main (a : Option Addr) (n ca : Nat) (t : Int) (u : Nat) (zs : List Nat) (w : World) (ha : Octs w (.slice a n ca) zs) (ht : Steps w) (hn : n ≤ 300) (t1 : -9223372036854775808 ≤ t) (t2 : t ≤ 9223372036854775807) (hu : u < 4294967296) (hu0 : 0 < u) :
    Calls Tryd.prog 5 #[.slice a n ca, .int .i64 t, .int .u32 u] w fun e w' => e = .returned (.bool true) ∧ Below w.heap.size w w' := by
  obtain ⟨i0, hi, hz0, hz1, hz2⟩ := info_parts Tryd.infoU8'
  have HA : Hid (Octs w (.slice a n ca) zs) := ha
  have HT : Hid (Steps w) := ht
  have LA : Hid (zs.length = n) := ha.lenEq
  have SA : Hid (∀ z ∈ zs, z < 256) := ha.small
  have hu1 : ¬ (u : Int) = 0 := by omega
  have hu2 : ((u : Int) == 0) = false := by simp; omega
  clear ha ht
  go_enter Tryd.func5, Tryd.ntmps5
  go_wp2_with fail
  refine (awake_any _ HT.out).mono ?_
  rintro e w1 ⟨rfl, hb1⟩
  have HB1 : Hid (Below w.heap.size w w1) := hb1
  have hsz1 : w.heap.size ≤ w1.heap.size := hb1.size
  clear hb1
  go_wp2_with fail
  refine (seal_octs _ zs _ (HA.out.kept HB1.out) (by rw [LA.out]; omega) (HT.out.below HB1.out)).mono ?_
  rintro e w2 ⟨a2, cap2, rfl, ho2, hb2⟩
  rw [LA.out] at ho2 ⊢
  have HO2 : Hid (Octs w2 (.slice a2 (n + 4) cap2) (zs ++ octN (crcSum zs))) := ho2
  have HB2 : Hid (Below w.heap.size w w2) := HB1.out.trans (hb2.mono hsz1)
  have hsz2 : w.heap.size ≤ w2.heap.size := HB2.out.size
  obtain ⟨K, hK, hKe⟩ := begin_at t n hn
  have HSS : Hid (sealedB (zs ++ octN (crcSum zs)) = true) := sealedB_seal zs SA.out
  have HSZ : Hid (∀ z ∈ zs ++ octN (crcSum zs), z < 256) := HO2.out.small
  have HSL : Hid ((zs ++ octN (crcSum zs)).length = n + 4) := HO2.out.lenEq
  clear ho2 hb2
  generalize zs ++ octN (crcSum zs) = ss at *
  go_wp2_with (at_builtin; refine wpList_append_octs _ rfl _ _ 26 rfl w.heap.size 5 i0 Tryd.underlying26 hi hz0 hz1 hz2 _ 0 [] rfl (World.ownsRow_made _ #[] 0 hsz2 (by decide) rfl) _ ss rfl (HO2.out.alloc _) ?d1 ?d2 ?_)
  case d1 => rw [HSL.out]; omega
  case d2 => simp; omega
  intro v3 w3 hown3 hg3
  have HB3 : Hid (Below w.heap.size w w3) := (HB2.out.alloc hsz2 _).trans (below_grown (World.ownsRow_made _ #[] 0 hsz2 (by decide) rfl) hg3 (by simp; omega))
  have HO3 : Hid (w3.ownsRow w.heap.size 5 1 v3 (n + 4) (u8s ss)) := by
    unfold Hid
    rw [HSL.out] at hown3
    exact hown3
  obtain ⟨g, cap3, rfl, hg, hcap3⟩ := own_form HO3.out (by omega)
  clear hown3 hg3
  go_wp2_with fail
  go_loopw [11] (fun i wr => ∃ k : Nat, ∃ xs : List Nat, k ≤ 32 ∧ i = .int .i64 k ∧ wr.ownsRow w.heap.size 5 1 (.slice (some ⟨g, 0, none⟩) (n + 4) cap3) (n + 4) (u8s xs) ∧ xs.length = n + 4 ∧ (∀ z ∈ xs, z < 256) ∧ numN xs = numN ss ^^^ 2 ^ K * (u % 2 ^ k) ∧ Below w.heap.size w wr) (fun i _ => 32 - (intOf i).toNat)
  case atStart => exact ⟨0, ss, Nat.zero_le _, rfl, HO3.out, HSL.out, HSZ.out, by simp [Nat.mod_one], HB3.out⟩
  case round =>
    obtain ⟨k, xs, hk, rfl, hown, hxl, hxs, hxn, hnx⟩ := hrel
    have HXL : Hid (xs.length = n + 4) := hxl
    have HXS : Hid (∀ z ∈ xs, z < 256) := hxs
    have HXN : Hid (numN xs = numN ss ^^^ 2 ^ K * (u % 2 ^ k)) := hxn
    clear hxl hxs hxn
    by_cases hlt : k < 32
    · have hbit := and_one (u / 2 ^ k) (Nat.lt_of_le_of_lt (Nat.div_le_self _ _) hu)
      rw [show ((u / 2 ^ k : Nat) : Int) = (u : Int) / 2 ^ k by simp] at hbit
      have HM : Hid (u % 2 ^ (k + 1) = u % 2 ^ k ^^^ 2 ^ k * (u / 2 ^ k % 2)) := mod_step u k
      have h01 : u / 2 ^ k % 2 = 0 ∨ u / 2 ^ k % 2 = 1 := by omega
      rcases h01 with h0 | h1
      · rw [h0] at hbit
        have HM2 : Hid (u % 2 ^ (k + 1) = u % 2 ^ k) := by unfold Hid; rw [HM.out, h0, Nat.mul_zero, Nat.xor_zero]
        clear h0
        go_wp2
        go_roundw
        case rel => exact ⟨k + 1, xs, by omega, by go_num, hown, HXL.out, HXS.out, by rw [HXN.out, HM2.out], hnx⟩
        case measure => simp [intOf]; omega
      · rw [h1] at hbit
        have HM2 : Hid (u % 2 ^ (k + 1) = u % 2 ^ k ^^^ 2 ^ k) := by unfold Hid; rw [HM.out, h1, Nat.mul_one]
        clear h1
        have hm : (K + k) / 8 < n + 4 := by omega
        obtain ⟨m, hme⟩ : ∃ m, m = (K + k) / 8 := ⟨_, rfl⟩
        obtain ⟨r, hre⟩ : ∃ r, r = (K + k) % 8 := ⟨_, rfl⟩
        have HME : Hid (m = (K + k) / 8) := hme
        have HRE : Hid (r = (K + k) % 8) := hre
        have hw : IntKind.i64.wrap ((K : Int) + (k : Int)) = (K : Int) + (k : Int) := by rw [IntKind.wrap_i64]; omega
        have q1 : ((K : Int) + (k : Int)) / 8 = (m : Int) := by omega
        have q2 : ((K : Int) + (k : Int)) % 8 = (r : Int) := by omega
        have q3 : ((K : Int) + (k : Int)).tdiv 8 = (m : Int) := by rw [Int.tdiv_eq_ediv_of_nonneg (by omega)]; exact q1
        have q4 : ((K : Int) + (k : Int)).tmod 8 = (r : Int) := by rw [Int.tmod_eq_emod_of_nonneg (by omega)]; exact q2
        have q5 : IntKind.i64.wrap (m : Int) = (m : Int) := by rw [IntKind.wrap_i64]; omega
        have q6 : IntKind.i64.wrap (r : Int) = (r : Int) := by rw [IntKind.wrap_i64]; omega
        have m1 : (m : Int) < (n : Int) + 4 := by omega
        have m0 : (0 : Int) ≤ (m : Int) := by omega
        have r1 : (r : Int) < 8 := by omega
        have r0 : (0 : Int) ≤ (r : Int) := by omega
        have r8 : (r : Int) ≤ 8 := by omega
        have hr8 : r < 8 := by omega
        obtain ⟨d, hd, hd1, hd2⟩ := one_shl r hr8
        have HD2 : Hid (d = 2 ^ r) := hd2
        clear hd2
        have hx8 := getD_small xs HXS.out m
        have c0 : wr.cell? ⟨g, m, none⟩ = some (.int .u8 (xs[m]?.getD 0 : Nat)) := by
          rw [hown.cellAt m (by omega)]
          have hml : m < xs.length := by rw [HXL.out]; omega
          simp [u8s, List.getElem?_eq_getElem hml]
        generalize hxm : xs[m]?.getD 0 = x at c0 hx8
        have HXM : Hid (xs[m]?.getD 0 = x) := hxm
        have hxd := bits_u8 x d hx8 hd
        have f0 := hown.frozenAt m
        clear hm hme hre hxm
        go_wp2_with fail
        go_region_with (fail)
        have hml : m < xs.length := by rw [HXL.out]; omega
        have HST := hown.stored m (.int .u8 ((x ^^^ d : Nat) : Int))
        have R : Hid ((wr.setCell ⟨g, m, none⟩ (.int .u8 ((x ^^^ d : Nat) : Int))).ownsRow w.heap.size 5 1 (.slice (some ⟨g, 0, none⟩) (n + 4) cap3) (n + 4) (u8s (xs.set m (x ^^^ d)))) := by
          unfold Hid
          rw [← u8s_set]; exact HST.1
        have R2 : Hid (Below w.heap.size w (wr.setCell ⟨g, m, none⟩ (.int .u8 ((x ^^^ d : Nat) : Int)))) := hnx.setCell (p := ⟨g, m, none⟩) hg _
        have R3 : Hid (numN (xs.set m (x ^^^ d)) = numN ss ^^^ 2 ^ K * (u % 2 ^ (k + 1))) := by
          unfold Hid
          rw [← HXM.out, numN_set xs m d hml HXS.out hd, HXN.out, HM2.out, mul_xor _ _ _ K rfl, Nat.xor_assoc, ← Nat.pow_add, HD2.out, HME.out, HRE.out, pow_split]
        have R4 : Hid (∀ z ∈ xs.set m (x ^^^ d), z < 256) := set_small xs m _ HXS.out (Nat.xor_lt_two_pow (n := 8) hx8 hd)
        clear HST hown hnx
        all_goals
          go_wp2
          go_roundw
          case rel => exact ⟨k + 1, xs.set m (x ^^^ d), by omega, by go_num, R.out, by rw [List.length_set]; exact HXL.out, R4.out, R3.out, R2.out.drew⟩
          case measure => simp [intOf]; omega
    · obtain rfl : k = 32 := by omega
      have HOX : Hid (Octs wr (.slice (some ⟨g, 0, none⟩) (n + 4) cap3) xs) := Octs.owned hown HXS.out
      have HF : Hid (sealedB xs = false) := by
        have hxn := HXN.out
        rw [Nat.mod_eq_of_lt (show u < 2 ^ 32 from hu)] at hxn
        exact turned_no ss xs K u HSZ.out HXS.out (by rw [HXL.out, HSL.out]) (by rw [HSL.out]; omega) HSS.out (by rw [HSL.out]; omega) hu (by omega) hxn
      have HBW : Hid (Below w.heap.size w wr) := hnx
      clear hown hnx
      go_wp2_with fail
      refine (open_v _ xs _ HOX.out (by rw [HXL.out]; omega) (HT.out.below HBW.out)).mono ?_
      rintro e w5 ⟨a5, n5, cap5, rfl, ho5, hb5⟩
      rw [HF.out]
      have HB5 : Hid (Below w.heap.size w w5) := HBW.out.trans (hb5.mono HBW.out.size)
      clear ho5 hb5
      go_wp2
      go_ret
      exact ⟨rfl, HB5.out⟩

theorem crcTurned_walk (a0 : Option Addr) (len0 cap0 : Nat) (z0 : List Int) (a1 : Int) (a2 : Int) (w : World) (ht : Steps w) (f0 : IsRow .u8 w a0 len0 cap0 z0) (f1 : (Lit.int .i64 a1).wf = true) (f2 : (Lit.int .u32 a2).wf = true) :
    Calls Tryd.prog 5 #[.slice a0 len0 cap0, .int .i64 a1, .int .u32 a2] w fun e w' => e = .returned (.bool true) ∧ Below w.heap.size w w' := by
  have h0 := Octs.ofRow f0
  have l0 := h0.lenLe
  have b1 : -9223372036854775808 ≤ a1 ∧ a1 ≤ 9223372036854775807 := by simpa [Lit.wf, IntKind.min, IntKind.max, IntKind.signed, IntKind.bits] using f1
  have b2 : 0 ≤ a2 ∧ a2 ≤ 4294967295 := by simpa [Lit.wf, IntKind.min, IntKind.max, IntKind.signed, IntKind.bits] using f2
  have HT : Hid (Steps w) := ht
  clear f0 f1 f2
  obtain ⟨u, rfl⟩ := Int.eq_ofNat_of_zero_le b2.1
  by_cases hn : len0 ≤ 300
  · by_cases hu : u = 0
    · subst hu
      clear h0 ht
      have hn' : ¬ (300 : Int) < len0 := by omega
      go_enter Tryd.func5, Tryd.ntmps5
      go_wp2_with fail
      refine (awake_any _ HT.out).mono ?_
      rintro e w1 ⟨rfl, hb1⟩
      have HB1 : Hid (Below w.heap.size w w1) := hb1
      clear hb1
      go_wp2_with fail
      refine (awake_any _ (HT.out.below HB1.out)).mono ?_
      rintro e w2 ⟨rfl, hb2⟩
      go_wp2
      go_ret
      exact ⟨rfl, HB1.out.trans (hb2.mono HB1.out.size)⟩
    · exact turned_main a0 len0 cap0 a1 u _ w h0 ht hn b1.1 b1.2 (by omega) (by omega)
  · clear h0 ht
    have hn' : (300 : Int) < len0 := by omega
    go_enter Tryd.func5, Tryd.ntmps5
    go_wp2_with fail
    refine (awake_any _ HT.out).mono ?_
    rintro e w1 ⟨rfl, hb1⟩
    have HB1 : Hid (Below w.heap.size w w1) := hb1
    clear hb1
    go_wp2_with fail
    refine (awake_any _ (HT.out.below HB1.out)).mono ?_
    rintro e w2 ⟨rfl, hb2⟩
    go_wp2
    go_ret
    exact ⟨rfl, HB1.out.trans (hb2.mono HB1.out.size)⟩
end Go.Proofs.YtbgnfipnkmfmlaaDoor
