/- The walk of the law 'CrcXors': it returns true for every input, where the program's table lies as it was laid. -/
import Derived.Test.YtbgnfipnkmfmlaaDoorWalkSeal
import Derived.Deep.RegionHeld3
namespace Go.Proofs.YtbgnfipnkmfmlaaDoor
open Go.RowKit
set_option linter.unusedVariables false

/-- A text whose first octets are laid, noughts behind them. -/
def upTo (xs : List Nat) (k : Nat) : List Nat := xs.take k ++ List.replicate (xs.length - k) 0
theorem upTo_length (xs : List Nat) (k : Nat) (h : k ≤ xs.length) : (upTo xs k).length = xs.length := by simp [upTo]; omega
theorem upTo_all (xs : List Nat) : upTo xs xs.length = xs := by simp [upTo]
theorem upTo_zero (xs : List Nat) : upTo xs 0 = List.replicate xs.length 0 := by simp [upTo]
theorem upTo_set (xs : List Nat) (k : Nat) (h : k < xs.length) : (upTo xs k).set k (xs[k]?.getD 0) = upTo xs (k + 1) := by
  have e : xs.take (k + 1) = xs.take k ++ [xs[k]] := by rw [List.take_add_one, List.getElem?_eq_getElem h]; rfl
  unfold upTo
  rw [List.set_append_right _ _ (by simp; omega), List.length_take, Nat.min_eq_left (by omega), Nat.sub_self, show xs.length - k = (xs.length - (k + 1)) + 1 by omega, List.replicate_succ, List.set_cons_zero, e, List.getElem?_eq_getElem h, List.append_assoc]
  rfl
theorem xorL_get (a b : List Nat) (k : Nat) (ha : k < a.length) (hb : k < b.length) : (xorL a b)[k]?.getD 0 = a[k]?.getD 0 ^^^ b[k]?.getD 0 := by
  simp [xorL, List.getElem?_zipWith, List.getElem?_eq_getElem ha, List.getElem?_eq_getElem hb]
set_option maxHeartbeats 1000000 in
theorem xors_main (a b c : Option Addr) (n ca cb cc : Nat) (xs ys zs : List Nat) (w : World) (ha : Octs w (.slice a n ca) xs) (hb : Octs w (.slice b n cb) ys) (hc : Octs w (.slice c n cc) zs) (ht : Steps w) (hn : n ≤ 300) :
    Calls Tryd.prog 6 #[.slice a n ca, .slice b n cb, .slice c n cc] w fun e w' => e = .returned (.bool true) ∧ Below w.heap.size w w' := by
  obtain ⟨i0, hi, hz0, hz1, hz2⟩ := info_parts Tryd.infoU8'
  have HA : Hid (Octs w (.slice a n ca) xs) := ha
  have HB : Hid (Octs w (.slice b n cb) ys) := hb
  have HC : Hid (Octs w (.slice c n cc) zs) := hc
  have HT : Hid (Steps w) := ht
  have LA : Hid (xs.length = n) := ha.lenEq
  have LB : Hid (ys.length = n) := hb.lenEq
  have LC : Hid (zs.length = n) := hc.lenEq
  have SA : Hid (∀ z ∈ xs, z < 256) := ha.small
  have SB : Hid (∀ z ∈ ys, z < 256) := hb.small
  have SC : Hid (∀ z ∈ zs, z < 256) := hc.small
  have L1 : Hid ((xorL xs ys).length = n) := by unfold Hid; rw [xorL_length _ _ (by rw [LA.out, LB.out]), LA.out]
  have L2 : Hid ((xorL (xorL xs ys) zs).length = n) := by unfold Hid; rw [xorL_length _ _ (by rw [L1.out, LC.out]), L1.out]
  have S2 : Hid (∀ z ∈ xorL (xorL xs ys) zs, z < 256) := xorL_small _ _ (xorL_small _ _ SA.out SB.out) SC.out
  clear ha hb hc ht
  go_enter Tryd.func6, Tryd.ntmps6
  go_wp2_with fail
  refine (awake_any _ HT.out).mono ?_
  rintro e w1 ⟨rfl, hb1⟩
  have HB1 : Hid (Below w.heap.size w w1) := hb1
  have hsz1 : w.heap.size ≤ w1.heap.size := hb1.size
  clear hb1
  go_wp2_with (at_make; refine wpList_make_full _ rfl _ _ 26 rfl w.heap.size 5 i0 _ 1 Tryd.underlying26 hi hz0 hz1 .i64 .i64 _ _ n rfl rfl rfl rfl ?c1 ?c2 hsz1 ?_)
  case c1 => rw [hz2]; omega
  case c2 => unfold maxLen; omega
  intro w2 hown hg2
  have HB2 : Hid (Below w.heap.size w w2) := HB1.out.grown hg2 hsz1 (fun k hk => by cases hk)
  have HO2 : Hid (w2.ownsRow w.heap.size 5 1 (.slice (some ⟨w1.heap.size, 0, none⟩) n n) n (u8s (upTo (xorL (xorL xs ys) zs) 0))) := by
    unfold Hid
    have e : u8s (upTo (xorL (xorL xs ys) zs) 0) = (madeCells #[Value.int .u8 0] n).toList := by
      rw [upTo_zero, L2.out]
      exact (by simp [u8s] : u8s (List.replicate n 0) = List.replicate n (.int .u8 0)).trans (toList_madeCells_one _ _).symm
    rw [e]; exact hown
  clear hown hg2
  go_wp2_with fail
  go_loopw [8] (fun i wr => ∃ k : Nat, k ≤ n ∧ i = .int .i64 k ∧ wr.ownsRow w.heap.size 5 1 (.slice (some ⟨w1.heap.size, 0, none⟩) n n) n (u8s (upTo (xorL (xorL xs ys) zs) k)) ∧ Below w.heap.size w wr) (fun i _ => n - (intOf i).toNat)
  case atStart => exact ⟨0, Nat.zero_le _, rfl, HO2.out, HB2.out⟩
  case round =>
    obtain ⟨k, hk, rfl, hown, hnx⟩ := hrel
    by_cases hlt : k < n
    · have HBW : Hid (Below w.heap.size w wr) := hnx
      obtain ⟨b1, o1, rfl, hl1, hc1⟩ := HA.out.addr (by omega)
      obtain ⟨b2, o2, rfl, hl2, hc2⟩ := HB.out.addr (by omega)
      obtain ⟨b3, o3, rfl, hl3, hc3⟩ := HC.out.addr (by omega)
      have d1 := (hc1.kept hnx hl1) k (by rw [LA.out]; exact hlt)
      have d2 := (hc2.kept hnx hl2) k (by rw [LB.out]; exact hlt)
      have d3 := (hc3.kept hnx hl3) k (by rw [LC.out]; exact hlt)
      have q1 := getD_small xs SA.out k
      have q2 := getD_small ys SB.out k
      have q3 := getD_small zs SC.out k
      have HX : Hid ((xorL (xorL xs ys) zs)[k]?.getD 0 = xs[k]?.getD 0 ^^^ ys[k]?.getD 0 ^^^ zs[k]?.getD 0) := by
        unfold Hid
        rw [xorL_get _ _ k (by rw [L1.out]; exact hlt) (by rw [LC.out]; exact hlt), xorL_get _ _ k (by rw [LA.out]; exact hlt) (by rw [LB.out]; exact hlt)]
      generalize xs[k]?.getD 0 = p at d1 q1 HX
      generalize ys[k]?.getD 0 = q at d2 q2 HX
      generalize zs[k]?.getD 0 = r at d3 q3 HX
      have e1 := bits_u8 p q q1 q2
      have e2 := bits_u8 (p ^^^ q) r (Nat.xor_lt_two_pow (n := 8) q1 q2) q3
      have f4 := hown.frozenAt k
      have c4 : ∃ u, wr.cell? ⟨w1.heap.size, k, none⟩ = some u := by
        rw [hown.cellAt k (by omega), List.getElem?_eq_getElem (by rw [u8s_length, upTo_length _ _ (by rw [L2.out]; exact hk), L2.out]; exact hlt)]
        exact ⟨_, rfl⟩
      obtain ⟨u4, c4⟩ := c4
      have HST := hown.stored k (.int .u8 ((p ^^^ q ^^^ r : Nat) : Int))
      have R : Hid ((wr.setCell ⟨w1.heap.size, k, none⟩ (.int .u8 ((p ^^^ q ^^^ r : Nat) : Int))).ownsRow w.heap.size 5 1 (.slice (some ⟨w1.heap.size, 0, none⟩) n n) n (u8s (upTo (xorL (xorL xs ys) zs) (k + 1)))) := by
        unfold Hid
        rw [← upTo_set _ _ (by rw [L2.out]; exact hlt), HX.out, ← u8s_set]; exact HST.1
      have R2 : Hid (Below w.heap.size w (wr.setCell ⟨w1.heap.size, k, none⟩ (.int .u8 ((p ^^^ q ^^^ r : Nat) : Int)))) := hnx.setCell (p := ⟨w1.heap.size, k, none⟩) hsz1 _
      clear HST hown hnx hc1 hc2 hc3
      have HK : Hid (∀ u, (wr.setCell ⟨w1.heap.size, k, none⟩ u).cell? ⟨b1, o1 + k, none⟩ = some (.int .u8 (p : Nat)) ∧ (wr.setCell ⟨w1.heap.size, k, none⟩ u).cell? ⟨b2, o2 + k, none⟩ = some (.int .u8 (q : Nat)) ∧ (wr.setCell ⟨w1.heap.size, k, none⟩ u).cell? ⟨b3, o3 + k, none⟩ = some (.int .u8 (r : Nat))) := fun u =>
        ⟨(cell_other _ _ _ _ (by show b1 ≠ w1.heap.size; omega)).trans d1, (cell_other _ _ _ _ (by show b2 ≠ w1.heap.size; omega)).trans d2, (cell_other _ _ _ _ (by show b3 ≠ w1.heap.size; omega)).trans d3⟩
      have hk1 : (k : Int) < (n : Int) := by omega
      have hk0 : (0 : Int) ≤ (k : Int) := by omega
      go_wp2_with fail
      go_region_held3 (fun w' => w'.cell? ⟨b1, o1 + k, none⟩ = some (.int .u8 (p : Nat)) ∧ w'.cell? ⟨b2, o2 + k, none⟩ = some (.int .u8 (q : Nat)) ∧ w'.cell? ⟨b3, o3 + k, none⟩ = some (.int .u8 (r : Nat))) (first | exact ⟨d1, d2, d3⟩ | exact HK.out _) (fail)
      all_goals
        go_wp2
        go_roundw
        case rel => exact ⟨k + 1, by omega, by go_num, R.out, R2.out.drew⟩
        case measure => simp [intOf]; omega
    · obtain rfl : k = n := by omega
      have HX : Hid (Octs wr (.slice (some ⟨w1.heap.size, 0, none⟩) k k) (xorL (xorL xs ys) zs)) := by
        have e := upTo_all (xorL (xorL xs ys) zs)
        rw [L2.out] at e
        rw [e] at hown
        exact Octs.owned hown S2.out
      have HAr : Hid (Octs wr (.slice a k ca) xs) := HA.out.kept hnx
      have HBr : Hid (Octs wr (.slice b k cb) ys) := HB.out.kept hnx
      have HCr : Hid (Octs wr (.slice c k cc) zs) := HC.out.kept hnx
      have HTr : Hid (Steps wr) := HT.out.below hnx
      have HBW : Hid (Below w.heap.size w wr) := hnx
      have hsz : w.heap.size ≤ wr.heap.size := hnx.size
      have HS : Hid (crcSum (xorL (xorL xs ys) zs) = crcSum xs ^^^ crcSum ys ^^^ crcSum zs) := crcSum_xor3 xs ys zs (by rw [LA.out, LB.out]) (by rw [LA.out, LC.out]) SA.out SB.out SC.out
      have s1 := crcSum_lt xs SA.out
      have s2 := crcSum_lt ys SB.out
      have s3 := crcSum_lt zs SC.out
      have e1 := bits_u32 (crcSum xs) (crcSum ys) s1 s2
      have e2 := bits_u32 (crcSum xs ^^^ crcSum ys) (crcSum zs) (Nat.xor_lt_two_pow (n := 32) s1 s2) s3
      clear hown hnx
      go_wp2_with fail
      refine (sum_box _ _ (by simp) _ (xorL (xorL xs ys) zs) HX.out HTr.out).mono ?_
      rintro e w3 ⟨rfl, rfl⟩
      rw [HS.out]
      go_wp2_with fail
      refine (sum_box _ _ (by simp) _ xs (HAr.out.alloc _) (HTr.out.alloc _)).mono ?_
      rintro e w3 ⟨rfl, rfl⟩
      go_wp2_with fail
      refine (sum_box _ _ (by simp) _ ys ((HBr.out.alloc _).alloc _) ((HTr.out.alloc _).alloc _)).mono ?_
      rintro e w3 ⟨rfl, rfl⟩
      go_wp2_with fail
      refine (sum_box _ _ (by simp) _ zs (((HCr.out.alloc _).alloc _).alloc _) (((HTr.out.alloc _).alloc _).alloc _)).mono ?_
      rintro e w3 ⟨rfl, rfl⟩
      go_wp2
      go_ret
      exact ⟨rfl, (((HBW.out.alloc hsz _).alloc (by simp; omega) _).alloc (by simp; omega) _).alloc (by simp; omega) _⟩

theorem crcXors_walk (a0 : Option Addr) (len0 cap0 : Nat) (z0 : List Int) (a1 : Option Addr) (len1 cap1 : Nat) (z1 : List Int) (a2 : Option Addr) (len2 cap2 : Nat) (z2 : List Int) (w : World) (ht : Steps w)
    (f0 : IsRow .u8 w a0 len0 cap0 z0) (f1 : IsRow .u8 w a1 len1 cap1 z1) (f2 : IsRow .u8 w a2 len2 cap2 z2) :
    Calls Tryd.prog 6 #[.slice a0 len0 cap0, .slice a1 len1 cap1, .slice a2 len2 cap2] w fun e w' => e = .returned (.bool true) ∧ Below w.heap.size w w' := by
  have h0 := Octs.ofRow f0
  have h1 := Octs.ofRow f1
  have h2 := Octs.ofRow f2
  have l0 := h0.lenLe
  have l1 := h1.lenLe
  have l2 := h2.lenLe
  have HT : Hid (Steps w) := ht
  clear f0 f1 f2
  by_cases hn : len0 ≤ 300
  · by_cases e1 : len1 = len0
    · by_cases e2 : len2 = len0
      · subst e1
        subst e2
        exact xors_main a0 a1 a2 _ cap0 cap1 cap2 _ _ _ w h0 h1 h2 ht hn
      · clear h0 h1 h2 ht
        have hn' : ¬ (300 : Int) < len0 := by omega
        have e1' : ((len1 : Int) != (len0 : Int)) = false := by simp [e1]
        have e2' : ((len2 : Int) != (len0 : Int)) = true := by simp; omega
        clear e1 e2
        go_enter Tryd.func6, Tryd.ntmps6
        go_wp2_with fail
        refine (awake_any _ HT.out).mono ?_
        rintro e w1 ⟨rfl, hb1⟩
        have HB1 : Hid (Below w.heap.size w w1) := hb1
        clear hb1
        go_wp2_with fail
        refine (awake_any _ (HT.out.below HB1.out)).mono ?_
        rintro e w2 ⟨rfl, hb2⟩
        go_wp2
        go_ret
        exact ⟨rfl, HB1.out.trans (hb2.mono HB1.out.size)⟩
    · clear h0 h1 h2 ht
      have hn' : ¬ (300 : Int) < len0 := by omega
      have e1' : ((len1 : Int) != (len0 : Int)) = true := by simp; omega
      clear e1
      go_enter Tryd.func6, Tryd.ntmps6
      go_wp2_with fail
      refine (awake_any _ HT.out).mono ?_
      rintro e w1 ⟨rfl, hb1⟩
      have HB1 : Hid (Below w.heap.size w w1) := hb1
      clear hb1
      go_wp2_with fail
      refine (awake_any _ (HT.out.below HB1.out)).mono ?_
      rintro e w2 ⟨rfl, hb2⟩
      go_wp2
      go_ret
      exact ⟨rfl, HB1.out.trans (hb2.mono HB1.out.size)⟩
  · clear h0 h1 h2 ht
    have hn' : (300 : Int) < len0 := by omega
    go_enter Tryd.func6, Tryd.ntmps6
    go_wp2_with fail
    refine (awake_any _ HT.out).mono ?_
    rintro e w1 ⟨rfl, hb1⟩
    have HB1 : Hid (Below w.heap.size w w1) := hb1
    clear hb1
    go_wp2_with fail
    refine (awake_any _ (HT.out.below HB1.out)).mono ?_
    rintro e w2 ⟨rfl, hb2⟩
    go_wp2
    go_ret
    exact ⟨rfl, HB1.out.trans (hb2.mono HB1.out.size)⟩
end Go.Proofs.YtbgnfipnkmfmlaaDoor
