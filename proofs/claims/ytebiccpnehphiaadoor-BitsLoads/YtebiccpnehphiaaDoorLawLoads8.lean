/- The law BitsLoads over the contracts of package bits. -/
import Derived.Test.YtebiccpnehphiaaDoorLawEach8
import Derived.Test.YtebiccpnehphiaaDoorLoad8
namespace Go.Proofs.YtebiccpnehphiaaDoor
open Go.RowKit
set_option linter.unusedVariables false

theorem below_drew8 {B : Nat} {a w : World} (h : Below B a w) (n : Nat) : Below B a (w.drewN n) := h.trans ⟨rfl, rfl, rfl, Nat.le_refl _, fun _ _ => rfl⟩
/-- Its two last lines hold in any world in which what it reads is there. -/
theorem bit_here {us : List Nat} (hz : ∀ z ∈ us, z < 18446744073709551616) {r : Nat} (h : bitsOf us r = true) : bits .and .u64 ((us[r / 64]?.getD 0 / 2 ^ (r % 64) : Nat) : Int) 1 = 1 := by
  have hu := wd_small us hz (r / 64)
  rw [has_core _ (Nat.lt_of_le_of_lt (Nat.div_le_self _ _) hu), Nat.testBit_div_two_pow, Nat.zero_add]
  unfold bitsOf at h
  rw [h]; rfl

set_option maxRecDepth 20000 in
set_option maxHeartbeats 2000000 in
theorem bitsLoads_walk (n : Int) (a1 : Option Addr) (len1 cap1 : Nat) (z1 : List Int) (w : World) (ht : Steps w) (f0 : (Lit.int .i64 n).wf = true) (f1 : IsRow .u64 w a1 len1 cap1 z1) :
    Calls Tryd.prog 3 #[.int .i64 n, .slice a1 len1 cap1] w fun e w' => e = .returned (.bool true) ∧ Below w.heap.size w w' := by
  have hn : -9223372036854775808 ≤ n ∧ n ≤ 9223372036854775807 := by simpa [Lit.wf, IntKind.min, IntKind.max, IntKind.signed, IntKind.bits] using f0
  have HT : Hid (Steps w) := ht
  have H0 : Hid (0 < w.heap.size) := ht.pos
  have HAw : Hid (Calls Tryd.prog 6 #[] w fun x w' => x = .returned (.bool true) ∧ Below w.heap.size w w') := awake_any w ht
  have hW := Wds.ofRow f1
  have hlen : len1 ≤ 9223372036854775807 := by
    have := hW.2.1; rw [hW.lenEq] at this; unfold maxLen at this; omega
  generalize (z1.take len1).map Int.toNat = us at hW
  clear f0 f1 ht
  have HW : Hid (Wds w (.slice a1 len1 cap1) us) := hW
  have HAw2 : Hid (∀ w1, Below w.heap.size w w1 → Calls Tryd.prog 6 #[] w1 fun x w' => x = .returned (.bool true) ∧ Below w.heap.size w w') := fun w1 hB => (awake_any w1 (HT.out.below hB)).mono fun x w2 h => ⟨h.1, hB.trans (h.2.mono hB.size)⟩
  clear hW
  by_cases hl : 20 < len1
  · go_enter Tryd.func3, Tryd.ntmps3
    go_wp2_with fail
    refine HAw.out.mono ?_
    rintro e w1 ⟨rfl, hB⟩
    have HC : Hid (Calls Tryd.prog 6 #[] w1 fun x w' => x = .returned (.bool true) ∧ Below w.heap.size w w') := HAw2.out w1 hB
    clear hB
    go_wp2_with fail
    refine HC.out.mono ?_
    rintro e w2 ⟨rfl, hB2⟩
    have HB2 : Hid (Below w.heap.size w w2) := hB2
    clear hB2
    go_wp2
    go_ret
    exact ⟨rfl, HB2.out⟩
  by_cases hbig : 2000 < n ∧ n ≤ 65536
  · obtain ⟨hb1, hb2⟩ := hbig
    go_enter Tryd.func3, Tryd.ntmps3
    go_wp2_with fail
    refine HAw.out.mono ?_
    rintro e w1 ⟨rfl, hB⟩
    have HC : Hid (Calls Tryd.prog 6 #[] w1 fun x w' => x = .returned (.bool true) ∧ Below w.heap.size w w') := HAw2.out w1 hB
    clear hB
    go_wp2_with fail
    refine HC.out.mono ?_
    rintro e w2 ⟨rfl, hB2⟩
    have HB2 : Hid (Below w.heap.size w w2) := hB2
    clear hB2
    go_wp2
    go_ret
    exact ⟨rfl, HB2.out⟩
  obtain ⟨i0, hi, hz0, hz1, hz2⟩ := info_parts Tryd.infoU64
  have HU : Hid (us.length = len1) := HW.out.lenEq
  by_cases hneg : n < 0
  · have HNN : Hid (-9223372036854775808 ≤ n ∧ n ≤ 9223372036854775807) := hn
    have HOUT : Hid (n < 0 ∨ 65536 < n) := .inl hneg
    clear hbig
    go_enter Tryd.func3, Tryd.ntmps3
    go_wp2_with fail
    refine HAw.out.mono ?_
    rintro e w1 ⟨rfl, hB⟩
    have HB1 : Hid (Below w.heap.size w w1) := hB
    have HW1 : Hid (Wds w1 (.slice a1 len1 cap1) us) := HW.out.kept hB
    clear hB
    go_wp2_with (at_builtin; refine wpList_append_wds _ rfl _ _ 22 rfl w.heap.size 28 i0 Tryd.underlying22 hi hz0 hz1 hz2 _ 0 [] rfl (World.ownsRow_made _ #[] 0 HB1.out.size (by decide) rfl) _ us rfl (HW1.out.kept ((Below.refl _ _).alloc (Nat.le_refl _) _)) ?d1 ?d2 ?_)
    case d1 => rw [HU.out]; omega
    case d2 => have := HB1.out.size; simp; omega
    intro v3 w3 hown hg
    have HB3 : Hid (Below w.heap.size w w3) := (HB1.out.alloc HB1.out.size _).trans ((Below.refl _ _).grown hg (by have := HB1.out.size; simp; omega) (fun j hj => ((World.ownsRow_made w1 #[] 0 HB1.out.size (by decide) rfl : (w1.alloc _).ownsRow w.heap.size 28 1 _ 0 []).lt j hj).1))
    have HI3 : Hid (Wds w3 v3 us) := Wds.ofOwn hown HW.out.1
    have HW3 : Hid (Wds w3 (.slice a1 len1 cap1) us) := HW.out.kept HB3.out
    have HP3 : Hid (0 < w3.heap.size) := Nat.lt_of_lt_of_le H0.out HB3.out.size
    clear hown hg
    have HL : Hid (Calls Tryd.prog 7 #[.int .i64 n, v3] w3 fun x w' => x = .returned (.tuple #[.pointer none, .int .i64 2]) ∧ w' = w3) := load_no1 w3 n v3 HNN.out.1 HNN.out.2 HOUT.out
    go_wp2_with fail
    refine HL.out.mono ?_
    rintro e w4 ⟨rfl, rfl⟩
    go_wp2
    go_ret
    exact ⟨rfl, HB3.out⟩
  by_cases hgt : 65536 < n
  · have HNN : Hid (-9223372036854775808 ≤ n ∧ n ≤ 9223372036854775807) := hn
    have HOUT : Hid (n < 0 ∨ 65536 < n) := .inr hgt
    clear hbig hneg
    go_enter Tryd.func3, Tryd.ntmps3
    go_wp2_with fail
    refine HAw.out.mono ?_
    rintro e w1 ⟨rfl, hB⟩
    have HB1 : Hid (Below w.heap.size w w1) := hB
    have HW1 : Hid (Wds w1 (.slice a1 len1 cap1) us) := HW.out.kept hB
    clear hB
    go_wp2_with (at_builtin; refine wpList_append_wds _ rfl _ _ 22 rfl w.heap.size 28 i0 Tryd.underlying22 hi hz0 hz1 hz2 _ 0 [] rfl (World.ownsRow_made _ #[] 0 HB1.out.size (by decide) rfl) _ us rfl (HW1.out.kept ((Below.refl _ _).alloc (Nat.le_refl _) _)) ?d1 ?d2 ?_)
    case d1 => rw [HU.out]; omega
    case d2 => have := HB1.out.size; simp; omega
    intro v3 w3 hown hg
    have HB3 : Hid (Below w.heap.size w w3) := (HB1.out.alloc HB1.out.size _).trans ((Below.refl _ _).grown hg (by have := HB1.out.size; simp; omega) (fun j hj => ((World.ownsRow_made w1 #[] 0 HB1.out.size (by decide) rfl : (w1.alloc _).ownsRow w.heap.size 28 1 _ 0 []).lt j hj).1))
    have HI3 : Hid (Wds w3 v3 us) := Wds.ofOwn hown HW.out.1
    have HW3 : Hid (Wds w3 (.slice a1 len1 cap1) us) := HW.out.kept HB3.out
    have HP3 : Hid (0 < w3.heap.size) := Nat.lt_of_lt_of_le H0.out HB3.out.size
    clear hown hg
    have HL : Hid (Calls Tryd.prog 7 #[.int .i64 n, v3] w3 fun x w' => x = .returned (.tuple #[.pointer none, .int .i64 2]) ∧ w' = w3) := load_no1 w3 n v3 HNN.out.1 HNN.out.2 HOUT.out
    go_wp2_with fail
    refine HL.out.mono ?_
    rintro e w4 ⟨rfl, rfl⟩
    go_wp2
    go_ret
    exact ⟨rfl, HB3.out⟩
  obtain ⟨k, rfl⟩ : ∃ k : Nat, n = (k : Nat) := ⟨n.toNat, by omega⟩
  have hk : k ≤ 2000 := by omega
  clear hneg hgt hbig hn
  have hq63 : (((k : Nat) : Int) + 63).tdiv 64 = (wn k : Nat) := by
    rw [show ((k : Nat) : Int) + 63 = ((k + 63 : Nat) : Int) by omega]
    exact Int.ofNat_tdiv (k + 63) 64
  have hg : ((k : Nat) : Int).tmod 64 = ((k % 64 : Nat) : Int) := Int.ofNat_tmod k 64
  have hg64 : k % 64 < 64 := Nat.mod_lt _ (by decide)
  by_cases hlw : len1 ≠ wn k
  · have HBAD : Hid (us.length ≠ wn k ∨ (us.length = wn k ∧ over k us = true)) := .inl (by rw [HU.out]; exact hlw)
    have hm32 : wn k ≤ 64 := by unfold wn; omega
    have hne : (((len1 : Nat) : Int) == (wn k : Nat)) = false := by simp; omega
    clear hlw
    have HLO : Hid (∀ w3 v3, Wds w3 v3 us → 0 < w3.heap.size → Calls Tryd.prog 7 #[.int .i64 (k : Nat), v3] w3 fun x w' => x = .returned (.tuple #[.pointer none, .int .i64 2]) ∧ Below w3.heap.size w3 w') := fun w3 v3 h1 h2 => load_no2 w3 k v3 us h1 (by omega) h2 (by rw [HU.out]; omega) HBAD.out
    clear HBAD
    generalize wn k = m at *
    go_enter Tryd.func3, Tryd.ntmps3
    go_wp2_with fail
    refine HAw.out.mono ?_
    rintro e w1 ⟨rfl, hB⟩
    have HB1 : Hid (Below w.heap.size w w1) := hB
    have HW1 : Hid (Wds w1 (.slice a1 len1 cap1) us) := HW.out.kept hB
    clear hB
    go_wp2_with (at_builtin; refine wpList_append_wds _ rfl _ _ 22 rfl w.heap.size 28 i0 Tryd.underlying22 hi hz0 hz1 hz2 _ 0 [] rfl (World.ownsRow_made _ #[] 0 HB1.out.size (by decide) rfl) _ us rfl (HW1.out.kept ((Below.refl _ _).alloc (Nat.le_refl _) _)) ?d1 ?d2 ?_)
    case d1 => rw [HU.out]; omega
    case d2 => have := HB1.out.size; simp; omega
    intro v3 w3 hown hg
    have HB3 : Hid (Below w.heap.size w w3) := (HB1.out.alloc HB1.out.size _).trans ((Below.refl _ _).grown hg (by have := HB1.out.size; simp; omega) (fun j hj => ((World.ownsRow_made w1 #[] 0 HB1.out.size (by decide) rfl : (w1.alloc _).ownsRow w.heap.size 28 1 _ 0 []).lt j hj).1))
    have HI3 : Hid (Wds w3 v3 us) := Wds.ofOwn hown HW.out.1
    have HW3 : Hid (Wds w3 (.slice a1 len1 cap1) us) := HW.out.kept HB3.out
    have HP3 : Hid (0 < w3.heap.size) := Nat.lt_of_lt_of_le H0.out HB3.out.size
    clear hown hg
    have HL : Hid (Calls Tryd.prog 7 #[.int .i64 (k : Nat), v3] w3 fun x w' => x = .returned (.tuple #[.pointer none, .int .i64 2]) ∧ Below w3.heap.size w3 w') := HLO.out w3 v3 HI3.out HP3.out
    go_wp2_with fail
    refine HL.out.mono ?_
    rintro e w4 ⟨rfl, hB4⟩
    have HB4 : Hid (Below w.heap.size w w4) := HB3.out.trans (hB4.mono HB3.out.size)
    have HW4 : Hid (Wds w4 (.slice a1 len1 cap1) us) := HW.out.kept HB4.out
    clear hB4
    go_wp2
    go_ret
    exact ⟨rfl, HB4.out⟩
  · obtain ⟨m, hm⟩ : ∃ m, m = wn k := ⟨_, rfl⟩
    have hl1 : m = len1 := by omega
    subst hl1
    have HMW : Hid (m = wn k) := hm
    rw [← hm] at hq63
    by_cases hg0 : k % 64 = 0
    · have HOV : Hid (over k us = false) := by unfold Hid over; rw [decide_eq_false (by omega), Bool.false_and]
      have HUW : Hid (us.length = wn k) := HU.out.trans HMW.out
      rw [hg0] at hg
      clear hlw hm hg0 hg64
      go_enter Tryd.func3, Tryd.ntmps3
      go_wp2_with fail
      refine HAw.out.mono ?_
      rintro e w1 ⟨rfl, hB⟩
      have HB1 : Hid (Below w.heap.size w w1) := hB
      have HW1 : Hid (Wds w1 (.slice a1 m cap1) us) := HW.out.kept hB
      clear hB
      go_wp2_with (at_builtin; refine wpList_append_wds _ rfl _ _ 22 rfl w.heap.size 28 i0 Tryd.underlying22 hi hz0 hz1 hz2 _ 0 [] rfl (World.ownsRow_made _ #[] 0 HB1.out.size (by decide) rfl) _ us rfl (HW1.out.kept ((Below.refl _ _).alloc (Nat.le_refl _) _)) ?d1 ?d2 ?_)
      case d1 => rw [HU.out]; omega
      case d2 => have := HB1.out.size; simp; omega
      intro v3 w3 hown hg
      have HB3 : Hid (Below w.heap.size w w3) := (HB1.out.alloc HB1.out.size _).trans ((Below.refl _ _).grown hg (by have := HB1.out.size; simp; omega) (fun j hj => ((World.ownsRow_made w1 #[] 0 HB1.out.size (by decide) rfl : (w1.alloc _).ownsRow w.heap.size 28 1 _ 0 []).lt j hj).1))
      have HI3 : Hid (Wds w3 v3 us) := Wds.ofOwn hown HW.out.1
      have HW3 : Hid (Wds w3 (.slice a1 m cap1) us) := HW.out.kept HB3.out
      have HP3 : Hid (0 < w3.heap.size) := Nat.lt_of_lt_of_le H0.out HB3.out.size
      clear hown hg
      have HL : Hid (Calls Tryd.prog 7 #[.int .i64 (k : Nat), v3] w3 fun x w' => ∃ p b, x = .returned (.tuple #[.pointer (some ⟨p, 0, none⟩), .int .i64 0]) ∧ w3.heap.size ≤ p ∧ w3.heap.size ≤ b ∧ RowAt w' p b k (bitsOf us) ∧ Below w3.heap.size w3 w') := load_ok w3 k v3 us HI3.out (by omega) HP3.out HUW.out HOV.out
      go_wp2_with fail
      refine HL.out.mono ?_
      rintro e w4 ⟨p, pb, rfl, hp, hpb, hR, hB4⟩
      have HB4 : Hid (Below w.heap.size w w4) := HB3.out.trans (hB4.mono HB3.out.size)
      have HW4 : Hid (Wds w4 (.slice a1 m cap1) us) := HW.out.kept HB4.out
      have HI4 : Hid (Wds w4 v3 us) := HI3.out.kept hB4
      have HR4 : Hid (RowAt w4 p pb k (bitsOf us)) := hR
      have HT4 : Hid (Steps w4) := HT.out.below HB4.out
      clear hB4 hR hp hpb
      go_wp2_with fail
      refine (words_any w4 p pb k _ HR4.out).mono ?_
      rintro e w5 ⟨v5, rfl, hv5, hB5⟩
      rw [← HUW.out, wordN_bitsOf HW.out.1] at hv5
      have HV5 : Hid (Wds w5 v5 us) := hv5
      have HB5 : Hid (Below w.heap.size w w5) := HB4.out.trans (hB5.mono HB4.out.size)
      have HW5 : Hid (Wds w5 (.slice a1 m cap1) us) := HW.out.kept HB5.out
      have HI5 : Hid (Wds w5 v3 us) := HI4.out.kept hB5
      have HR5 : Hid (RowAt w5 p pb k (bitsOf us)) := HR4.out.below hB5
      have HT5 : Hid (Steps w5) := HT.out.below HB5.out
      clear hB5 hv5
      go_wp2_with fail
      refine (same_any w5 v5 _ us us HV5.out HW5.out (by rw [HU.out]; omega) (by rw [HU.out]; omega)).mono ?_
      rintro e w6 ⟨rfl, nd, rfl⟩
      rw [decide_eq_true rfl]
      have HB6 : Hid (Below w.heap.size w (w5.drewN nd)) := below_drew8 HB5.out nd
      have HF6 : Hid (Wds (w5.drewN nd) v3 us ∧ Wds (w5.drewN nd) (.slice a1 m cap1) us ∧ RowAt (w5.drewN nd) p pb k (bitsOf us) ∧ Steps (w5.drewN nd)) :=
        ⟨HI5.out.kept (below_drew8 (Below.refl _ _) nd), HW5.out.kept (below_drew8 (Below.refl _ _) nd), HR5.out.below (below_drew8 (Below.refl _ _) nd), HT5.out.below (below_drew8 (Below.refl _ _) nd)⟩
      clear HR5 HT5 HI5 HW5 HV5 HB5
      generalize w5.drewN nd = w6 at *
      have HNx : Hid (∀ a : Nat, a ≤ k → Calls Tryd.prog 10 #[.pointer (some ⟨p, 0, none⟩), .int .i64 (a : Nat)] w6 fun x w' => NextIs (bitsOf us) k a x ∧ w' = w6) := fun a ha => next_is w6 p pb k _ a HF6.out.2.2.1 HF6.out.2.2.2 (by omega)
      go_wp2_with fail
      refine (HNx.out 0 (Nat.zero_le _)).mono ?_
      rintro e w7 ⟨hN, rfl⟩
      obtain ⟨i0', hi0, hM0⟩ : ∃ i0' : Int, e = .returned (.int .i64 i0') ∧ Met (bitsOf us) k (-1) 0 i0' := by
        rcases hN with ⟨r, rfl, h1, h2, h3, h4⟩ | ⟨rfl, h1⟩
        · exact ⟨_, rfl, Nat.zero_le _, .inr ⟨r, rfl, by omega, h2, h3, h4.symm⟩⟩
        · exact ⟨_, rfl, Nat.zero_le _, .inl ⟨rfl, (h1 (Nat.zero_le _)).symm⟩⟩
      subst hi0
      have HM0 : Hid (Met (bitsOf us) k (-1) 0 i0') := hM0
      clear hN hM0
      go_wp2
      go_loop [9, 10] (fun n i => ∃ (l' : Int) (c' : Nat) (i' : Int), n = .int .i64 (c' : Nat) ∧ i = .int .i64 i' ∧ Hid (Met (bitsOf us) k l' c' i')) (fun _ i => mea k (intOf i))
      case atStart => exact ⟨-1, 0, i0', rfl, rfl, HM0⟩
      case round =>
        obtain ⟨l, c', i', rfl, rfl, hMt⟩ := hrel
        have hcm := hMt.out.1
        rcases hMt.out.2 with ⟨rfl, hce⟩ | ⟨r, rfl, hlr, hrm, hBr, hce⟩
        · have HCE : Hid (c' = cnt (bitsOf us) 0 k) := hce
          clear hce
          go_wp2_with fail
          refine (count_any _ p pb k _ HF6.out.2.2.1).mono ?_
          rintro e w8 ⟨rfl, rfl⟩
          rw [← HCE.out]
          go_wp2_with fail
          refine (same_any _ v3 _ us us HF6.out.1 HF6.out.2.1 (by rw [HU.out]; omega) (by rw [HU.out]; omega)).mono ?_
          rintro e w9 ⟨rfl, nd2, rfl⟩
          rw [decide_eq_true rfl]
          go_wp2
          go_ret
          exact ⟨rfl, below_drew8 HB6.out nd2⟩
        · have HCE : Hid (c' = cnt (bitsOf us) 0 r) := hce
          have HBR : Hid (bitsOf us r = true) := hBr
          have HMP : Hid (0 < m) := by
            have := HMW.out; unfold wn at this; unfold Hid; omega
          obtain ⟨b, off, rfl, hb, hc⟩ := HF6.out.2.1.addr HMP.out
          have hrw : r / 64 < m := by rw [HMW.out]; exact wn_lt hrm
          have hcell := hc (r / 64) hrw
          have hbit := bit_here HW.out.1 hBr
          have hq : ((r : Nat) : Int).tdiv 64 = ((r / 64 : Nat) : Int) := Int.ofNat_tdiv r 64
          have hr : ((r : Nat) : Int).tmod 64 = ((r % 64 : Nat) : Int) := Int.ofNat_tmod r 64
          have hd : ((us[r / 64]?.getD 0 : Nat) : Int) / 2 ^ (r % 64) = ((us[r / 64]?.getD 0 / 2 ^ (r % 64) : Nat) : Int) := by simp
          have hg64 : r % 64 < 64 := Nat.mod_lt _ (by decide)
          have hq16 : r / 64 < 65536 := by omega
          generalize us[r / 64]?.getD 0 / 2 ^ (r % 64) = y at *
          generalize us[r / 64]?.getD 0 = u at *
          generalize r / 64 = qq at *
          generalize r % 64 = gg at *
          have HNr : Hid (Calls Tryd.prog 10 #[.pointer (some ⟨p, 0, none⟩), .int .i64 ((r : Int) + 1)] w7 fun x w' => NextIs (bitsOf us) k (r + 1) x ∧ w' = w7) := by
            have := HNx.out (r + 1) (by omega)
            rwa [Int.natCast_add] at this
          have hcr : c' < k := by
            have h1 := cnt_le (bitsOf us) 0 r
            omega
          clear hce hBr hlr hc hb
          go_wp2_with fail
          refine HNr.out.mono ?_
          rintro e w8 ⟨hN, rfl⟩
          obtain ⟨i2, hi2, hM2, hmeas⟩ : ∃ i2 : Int, e = .returned (.int .i64 i2) ∧ Met (bitsOf us) k (r : Nat) (c' + 1) i2 ∧ mea k i2 < mea k (r : Nat) := by
            have hs := cnt_succ (bitsOf us) r HBR.out
            have hc := HCE.out
            rcases hN with ⟨r2, rfl, h1, h2, h3, h4⟩ | ⟨rfl, h1⟩
            · exact ⟨_, rfl, ⟨by omega, .inr ⟨r2, rfl, by omega, h2, h3, by omega⟩⟩, by rw [mea_at, mea_at]; omega⟩
            · exact ⟨_, rfl, ⟨by omega, .inl ⟨rfl, by have := h1 (by omega); omega⟩⟩, by rw [mea_end, mea_at]; omega⟩
          subst hi2
          have HM2 : Hid (Met (bitsOf us) k (r : Nat) (c' + 1) i2) := hM2
          have HME : Hid (mea k i2 < mea k (r : Nat)) := hmeas
          clear hN hM2 hmeas
          go_wp2
          go_round
          case rel => exact ⟨(r : Nat), c' + 1, i2, by go_num, rfl, HM2⟩
          case measure =>
            exact HME.out
    · have hgp : 0 < k % 64 := by omega
      have HPOS : Hid (0 < m) := by have := HMW.out; unfold wn at this; unfold Hid; omega
      have HLT : Hid (m - 1 < m) := by have := HPOS.out; unfold Hid; omega
      have HOE : Hid (over k us = decide (us[m - 1]?.getD 0 / 2 ^ (k % 64) ≠ 0)) := by unfold Hid over; rw [decide_eq_true hgp, Bool.true_and, HMW.out]
      have HUW : Hid (us.length = wn k) := HU.out.trans HMW.out
      obtain ⟨u, HLAST⟩ : ∃ u : Nat, Hid (us[m - 1]?.getD 0 = u) := ⟨_, rfl⟩
      rw [HLAST.out] at HOE
      have hd : ((u : Nat) : Int) / 2 ^ (k % 64) = ((u / 2 ^ (k % 64) : Nat) : Int) := by simp
      clear hlw hm hg0
      by_cases hy : u / 2 ^ (k % 64) = 0
      · have HOV : Hid (over k us = false) := by rw [HOE.out, hy]; rfl
        rw [hy] at hd
        clear hy
        generalize k % 64 = g at *
        have hs1 : ((m : Nat) : Int) - 1 = ((m - 1 : Nat) : Int) := by have := HPOS.out; omega
        have hlt1 : m - 1 < m := HLT.out
        have hle1 : m - 1 ≤ 20 := by omega
        go_enter Tryd.func3, Tryd.ntmps3
        go_wp2_with fail
        refine HAw.out.mono ?_
        rintro e w1 ⟨rfl, hB⟩
        have HB1 : Hid (Below w.heap.size w w1) := hB
        have HW1 : Hid (Wds w1 (.slice a1 m cap1) us) := HW.out.kept hB
        clear hB
        go_wp2_with (at_builtin; refine wpList_append_wds _ rfl _ _ 22 rfl w.heap.size 28 i0 Tryd.underlying22 hi hz0 hz1 hz2 _ 0 [] rfl (World.ownsRow_made _ #[] 0 HB1.out.size (by decide) rfl) _ us rfl (HW1.out.kept ((Below.refl _ _).alloc (Nat.le_refl _) _)) ?d1 ?d2 ?_)
        case d1 => rw [HU.out]; omega
        case d2 => have := HB1.out.size; simp; omega
        intro v3 w3 hown hg
        have HB3 : Hid (Below w.heap.size w w3) := (HB1.out.alloc HB1.out.size _).trans ((Below.refl _ _).grown hg (by have := HB1.out.size; simp; omega) (fun j hj => ((World.ownsRow_made w1 #[] 0 HB1.out.size (by decide) rfl : (w1.alloc _).ownsRow w.heap.size 28 1 _ 0 []).lt j hj).1))
        have HI3 : Hid (Wds w3 v3 us) := Wds.ofOwn hown HW.out.1
        have HW3 : Hid (Wds w3 (.slice a1 m cap1) us) := HW.out.kept HB3.out
        have HP3 : Hid (0 < w3.heap.size) := Nat.lt_of_lt_of_le H0.out HB3.out.size
        clear hown hg
        have HL : Hid (Calls Tryd.prog 7 #[.int .i64 (k : Nat), v3] w3 fun x w' => ∃ p b, x = .returned (.tuple #[.pointer (some ⟨p, 0, none⟩), .int .i64 0]) ∧ w3.heap.size ≤ p ∧ w3.heap.size ≤ b ∧ RowAt w' p b k (bitsOf us) ∧ Below w3.heap.size w3 w') := load_ok w3 k v3 us HI3.out (by omega) HP3.out HUW.out HOV.out
        go_wp2_with fail
        refine HL.out.mono ?_
        rintro e w4 ⟨p, pb, rfl, hp, hpb, hR, hB4⟩
        have HB4 : Hid (Below w.heap.size w w4) := HB3.out.trans (hB4.mono HB3.out.size)
        have HW4 : Hid (Wds w4 (.slice a1 m cap1) us) := HW.out.kept HB4.out
        have HI4 : Hid (Wds w4 v3 us) := HI3.out.kept hB4
        have HR4 : Hid (RowAt w4 p pb k (bitsOf us)) := hR
        have HT4 : Hid (Steps w4) := HT.out.below HB4.out
        clear hB4 hR hp hpb
        obtain ⟨lb, lo, rfl, hlb, hlc⟩ := HW4.out.addr HPOS.out
        have hlcell := hlc (m - 1) HLT.out
        rw [HLAST.out] at hlcell
        clear hlc hlb
        go_wp2_with fail
        refine (words_any w4 p pb k _ HR4.out).mono ?_
        rintro e w5 ⟨v5, rfl, hv5, hB5⟩
        rw [← HUW.out, wordN_bitsOf HW.out.1] at hv5
        have HV5 : Hid (Wds w5 v5 us) := hv5
        have HB5 : Hid (Below w.heap.size w w5) := HB4.out.trans (hB5.mono HB4.out.size)
        have HW5 : Hid (Wds w5 (.slice (some ⟨lb, lo, none⟩) m cap1) us) := HW.out.kept HB5.out
        have HI5 : Hid (Wds w5 v3 us) := HI4.out.kept hB5
        have HR5 : Hid (RowAt w5 p pb k (bitsOf us)) := HR4.out.below hB5
        have HT5 : Hid (Steps w5) := HT.out.below HB5.out
        clear hB5 hv5
        go_wp2_with fail
        refine (same_any w5 v5 _ us us HV5.out HW5.out (by rw [HU.out]; omega) (by rw [HU.out]; omega)).mono ?_
        rintro e w6 ⟨rfl, nd, rfl⟩
        rw [decide_eq_true rfl]
        have HB6 : Hid (Below w.heap.size w (w5.drewN nd)) := below_drew8 HB5.out nd
        have HF6 : Hid (Wds (w5.drewN nd) v3 us ∧ Wds (w5.drewN nd) (.slice (some ⟨lb, lo, none⟩) m cap1) us ∧ RowAt (w5.drewN nd) p pb k (bitsOf us) ∧ Steps (w5.drewN nd)) :=
          ⟨HI5.out.kept (below_drew8 (Below.refl _ _) nd), HW5.out.kept (below_drew8 (Below.refl _ _) nd), HR5.out.below (below_drew8 (Below.refl _ _) nd), HT5.out.below (below_drew8 (Below.refl _ _) nd)⟩
        clear HR5 HT5 HI5 HW5 HV5 HB5
        generalize w5.drewN nd = w6 at *
        have HNx : Hid (∀ a : Nat, a ≤ k → Calls Tryd.prog 10 #[.pointer (some ⟨p, 0, none⟩), .int .i64 (a : Nat)] w6 fun x w' => NextIs (bitsOf us) k a x ∧ w' = w6) := fun a ha => next_is w6 p pb k _ a HF6.out.2.2.1 HF6.out.2.2.2 (by omega)
        go_wp2_with fail
        refine (HNx.out 0 (Nat.zero_le _)).mono ?_
        rintro e w7 ⟨hN, rfl⟩
        obtain ⟨i0', hi0, hM0⟩ : ∃ i0' : Int, e = .returned (.int .i64 i0') ∧ Met (bitsOf us) k (-1) 0 i0' := by
          rcases hN with ⟨r, rfl, h1, h2, h3, h4⟩ | ⟨rfl, h1⟩
          · exact ⟨_, rfl, Nat.zero_le _, .inr ⟨r, rfl, by omega, h2, h3, h4.symm⟩⟩
          · exact ⟨_, rfl, Nat.zero_le _, .inl ⟨rfl, (h1 (Nat.zero_le _)).symm⟩⟩
        subst hi0
        have HM0 : Hid (Met (bitsOf us) k (-1) 0 i0') := hM0
        clear hN hM0
        go_wp2
        go_loop [9, 10] (fun n i => ∃ (l' : Int) (c' : Nat) (i' : Int), n = .int .i64 (c' : Nat) ∧ i = .int .i64 i' ∧ Hid (Met (bitsOf us) k l' c' i')) (fun _ i => mea k (intOf i))
        case atStart => exact ⟨-1, 0, i0', rfl, rfl, HM0⟩
        case round =>
          obtain ⟨l, c', i', rfl, rfl, hMt⟩ := hrel
          have hcm := hMt.out.1
          rcases hMt.out.2 with ⟨rfl, hce⟩ | ⟨r, rfl, hlr, hrm, hBr, hce⟩
          · have HCE : Hid (c' = cnt (bitsOf us) 0 k) := hce
            clear hce
            go_wp2_with fail
            refine (count_any _ p pb k _ HF6.out.2.2.1).mono ?_
            rintro e w8 ⟨rfl, rfl⟩
            rw [← HCE.out]
            go_wp2_with fail
            refine (same_any _ v3 _ us us HF6.out.1 HF6.out.2.1 (by rw [HU.out]; omega) (by rw [HU.out]; omega)).mono ?_
            rintro e w9 ⟨rfl, nd2, rfl⟩
            rw [decide_eq_true rfl]
            go_wp2
            go_ret
            exact ⟨rfl, below_drew8 HB6.out nd2⟩
          · have HCE : Hid (c' = cnt (bitsOf us) 0 r) := hce
            have HBR : Hid (bitsOf us r = true) := hBr
            have HMP : Hid (0 < m) := by
              have := HMW.out; unfold wn at this; unfold Hid; omega
            obtain ⟨b, off, hbe, hb, hc⟩ := HF6.out.2.1.addr HMP.out
            obtain ⟨rfl, rfl⟩ : b = lb ∧ off = lo := by simpa using hbe.symm
            have hrw : r / 64 < m := by rw [HMW.out]; exact wn_lt hrm
            have hcell := hc (r / 64) hrw
            have hbit := bit_here HW.out.1 hBr
            have hq : ((r : Nat) : Int).tdiv 64 = ((r / 64 : Nat) : Int) := Int.ofNat_tdiv r 64
            have hr : ((r : Nat) : Int).tmod 64 = ((r % 64 : Nat) : Int) := Int.ofNat_tmod r 64
            have hd : ((us[r / 64]?.getD 0 : Nat) : Int) / 2 ^ (r % 64) = ((us[r / 64]?.getD 0 / 2 ^ (r % 64) : Nat) : Int) := by simp
            have hg64 : r % 64 < 64 := Nat.mod_lt _ (by decide)
            have hq16 : r / 64 < 65536 := by omega
            generalize us[r / 64]?.getD 0 / 2 ^ (r % 64) = y at *
            generalize us[r / 64]?.getD 0 = u at *
            generalize r / 64 = qq at *
            generalize r % 64 = gg at *
            have HNr : Hid (Calls Tryd.prog 10 #[.pointer (some ⟨p, 0, none⟩), .int .i64 ((r : Int) + 1)] w7 fun x w' => NextIs (bitsOf us) k (r + 1) x ∧ w' = w7) := by
              have := HNx.out (r + 1) (by omega)
              rwa [Int.natCast_add] at this
            have hcr : c' < k := by
              have h1 := cnt_le (bitsOf us) 0 r
              omega
            clear hce hBr hlr hc hb
            go_wp2_with fail
            refine HNr.out.mono ?_
            rintro e w8 ⟨hN, rfl⟩
            obtain ⟨i2, hi2, hM2, hmeas⟩ : ∃ i2 : Int, e = .returned (.int .i64 i2) ∧ Met (bitsOf us) k (r : Nat) (c' + 1) i2 ∧ mea k i2 < mea k (r : Nat) := by
              have hs := cnt_succ (bitsOf us) r HBR.out
              have hc := HCE.out
              rcases hN with ⟨r2, rfl, h1, h2, h3, h4⟩ | ⟨rfl, h1⟩
              · exact ⟨_, rfl, ⟨by omega, .inr ⟨r2, rfl, by omega, h2, h3, by omega⟩⟩, by rw [mea_at, mea_at]; omega⟩
              · exact ⟨_, rfl, ⟨by omega, .inl ⟨rfl, by have := h1 (by omega); omega⟩⟩, by rw [mea_end, mea_at]; omega⟩
            subst hi2
            have HM2 : Hid (Met (bitsOf us) k (r : Nat) (c' + 1) i2) := hM2
            have HME : Hid (mea k i2 < mea k (r : Nat)) := hmeas
            clear hN hM2 hmeas
            go_wp2
            go_round
            case rel => exact ⟨(r : Nat), c' + 1, i2, by go_num, rfl, HM2⟩
            case measure =>
              exact HME.out
      · have HBAD : Hid (us.length ≠ wn k ∨ (us.length = wn k ∧ over k us = true)) := .inr ⟨HUW.out, by rw [HOE.out]; exact decide_eq_true hy⟩
        have hyz : (((u / 2 ^ (k % 64) : Nat) : Int) == 0) = false := by simp only [beq_eq_false_iff_ne]; omega
        clear hy
        have HLO : Hid (∀ w3 v3, Wds w3 v3 us → 0 < w3.heap.size → Calls Tryd.prog 7 #[.int .i64 (k : Nat), v3] w3 fun x w' => x = .returned (.tuple #[.pointer none, .int .i64 2]) ∧ Below w3.heap.size w3 w') := fun w3 v3 h1 h2 => load_no2 w3 k v3 us h1 (by omega) h2 (by rw [HU.out]; omega) HBAD.out
        clear HBAD
        generalize u / 2 ^ (k % 64) = y at *
        generalize k % 64 = g at *
        go_enter Tryd.func3, Tryd.ntmps3
        go_wp2_with fail
        refine HAw.out.mono ?_
        rintro e w1 ⟨rfl, hB⟩
        have HB1 : Hid (Below w.heap.size w w1) := hB
        have HW1 : Hid (Wds w1 (.slice a1 m cap1) us) := HW.out.kept hB
        clear hB
        go_wp2_with (at_builtin; refine wpList_append_wds _ rfl _ _ 22 rfl w.heap.size 28 i0 Tryd.underlying22 hi hz0 hz1 hz2 _ 0 [] rfl (World.ownsRow_made _ #[] 0 HB1.out.size (by decide) rfl) _ us rfl (HW1.out.kept ((Below.refl _ _).alloc (Nat.le_refl _) _)) ?d1 ?d2 ?_)
        case d1 => rw [HU.out]; omega
        case d2 => have := HB1.out.size; simp; omega
        intro v3 w3 hown hg
        have HB3 : Hid (Below w.heap.size w w3) := (HB1.out.alloc HB1.out.size _).trans ((Below.refl _ _).grown hg (by have := HB1.out.size; simp; omega) (fun j hj => ((World.ownsRow_made w1 #[] 0 HB1.out.size (by decide) rfl : (w1.alloc _).ownsRow w.heap.size 28 1 _ 0 []).lt j hj).1))
        have HI3 : Hid (Wds w3 v3 us) := Wds.ofOwn hown HW.out.1
        have HW3 : Hid (Wds w3 (.slice a1 m cap1) us) := HW.out.kept HB3.out
        have HP3 : Hid (0 < w3.heap.size) := Nat.lt_of_lt_of_le H0.out HB3.out.size
        clear hown hg
        have HL : Hid (Calls Tryd.prog 7 #[.int .i64 (k : Nat), v3] w3 fun x w' => x = .returned (.tuple #[.pointer none, .int .i64 2]) ∧ Below w3.heap.size w3 w') := HLO.out w3 v3 HI3.out HP3.out
        go_wp2_with fail
        refine HL.out.mono ?_
        rintro e w4 ⟨rfl, hB4⟩
        have HB4 : Hid (Below w.heap.size w w4) := HB3.out.trans (hB4.mono HB3.out.size)
        have HW4 : Hid (Wds w4 (.slice a1 m cap1) us) := HW.out.kept HB4.out
        clear hB4
        obtain ⟨b, off, rfl, hb, hc⟩ := HW4.out.addr HPOS.out
        have hcell := hc (m - 1) HLT.out
        rw [HLAST.out] at hcell
        clear hc hb
        have hs1 : ((m : Nat) : Int) - 1 = ((m - 1 : Nat) : Int) := by have := HPOS.out; omega
        have hlt1 : m - 1 < m := HLT.out
        have hle1 : m - 1 ≤ 20 := by omega
        generalize m - 1 = l at *
        go_wp2
        go_ret
        exact ⟨rfl, HB4.out⟩
end Go.Proofs.YtebiccpnehphiaaDoor
