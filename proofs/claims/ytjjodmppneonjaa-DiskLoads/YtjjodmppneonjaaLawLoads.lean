/- The walk of the law 'DiskLoads': it returns true for every input. -/
import Derived.Test.YtjjodmppneonjaaLawOff
namespace Go.Proofs.Ytjjodmppneonjaa
open Go.RowKit
set_option linter.unusedVariables false

theorem load_safe (zs : List Nat) (m : Nat) : ∀ k, k ≤ m → ∀ i, i < k → applyW (fun _ => Sec.zero) (valW (xsTo zs m k)) i = secAt zs i
  | 0, _, i, h => by omega
  | k + 1, hk, i, hi => by
    rw [xsTo_succ zs (by omega), valW_snoc, applyW_snoc]
    by_cases e : i = k
    · subst e; exact if_pos rfl
    · exact (if_neg e).trans (load_safe zs m k (by omega) i (by omega))
theorem secs_all (f : Nat → Sec) (zs : List Nat) : ∀ m, (∀ i, i < m → (f i).l = (zs.drop (128 * i)).take 128) → secsN f 0 m = zs.take (128 * m)
  | 0, _ => by simp [secsN]
  | m + 1, h => by
    rw [secsN_succ, secs_all f zs m (fun i hi => h i (by omega)), Nat.zero_add, h m (by omega), Nat.mul_add, Nat.mul_one, List.take_add]
theorem load_see (zs : List Nat) (m : Nat) (hl : zs.length = 128 * m) (ho : Octets zs) : secsN (loadSt m (valW (xsTo zs m m))).see 0 m = zs := by
  rw [secs_all _ zs m ?_, ← hl, List.take_length]
  intro i hi
  rw [see_none (by rfl)]
  show (applyW (fun _ => Sec.zero) (valW (xsTo zs m m)) i).l = _
  rw [load_safe zs m m (Nat.le_refl _) i hi, secAt_l (by omega) ho]
theorem load_crashed (m : Nat) (ps : List Wr) : (loadSt m ps).crashed [] (-1) 0 = loadSt m ps := rfl

theorem image_c {K : Nat → Prop} {w : World} {L : Loc} {S : St} {zs : List Nat} (h : IsDisk K w L S) (hz : secsN S.see 0 S.n = zs) :
    Calls Try.prog 10 #[.pointer (some ⟨L.b, 0, none⟩)] w.drew fun e w' => ∃ v, e = .returned v ∧ (convert 22 9 v).run Try.prog w' = .ok (.string (strN zs)) w' ∧ Hid (Below w.heap.size w w') := by
  refine (image_v h.drew).mono ?_
  rintro e w' ⟨v, rfl, ho, hb⟩
  rw [hz] at ho
  exact ⟨v, rfl, conv_octs ho 22 5 9 Try.underlying22 Try.underlying5 Try.underlying9, below_undrew hb⟩

set_option maxRecDepth 100000 in
set_option maxHeartbeats 2000000 in
theorem loads_main (a : Option Addr) (n cap : Nat) (zs : List Nat) (w : World) (h : Octs w (.slice a n cap) zs) (hn : n ≤ 2000) :
    Calls Try.prog 3 #[.slice a n cap] w fun e w' => e = .returned (.bool true) ∧ Below w.heap.size w w' := by
  obtain ⟨i0, hi, hz0, hz1, hz2⟩ := info_parts Try.infoU8d
  have HO : Hid (Octs w (.slice a n cap) zs) := h
  have LN : Hid (zs.length = n) := h.lenEq
  have hns : ¬ (2000 : Int) < n := by omega
  clear h
  go_enter Try.func3, Try.ntmps3
  go_wp2_with fail
  refine (awake3 _).mono ?_
  rintro e w1 ⟨rfl, hb1⟩
  have HB1 : Hid (Below w.heap.size w w1) := hb1
  have hs1 : w.heap.size ≤ w1.heap.size := hb1.size
  clear hb1
  go_wp2_with (at_builtin; refine wpList_append_octs _ rfl _ _ 22 rfl w.heap.size 5 i0 Try.underlying22 hi hz0 hz1 hz2 _ 0 [] rfl (World.ownsRow_made _ #[] 0 hs1 (by decide) rfl) _ zs rfl (HO.out.kept (HB1.out.alloc hs1 _)) ?d1 ?d2 ?_)
  case d1 => rw [LN.out]; omega
  case d2 => simp; omega
  intro v2 w2 hown2 hg2
  have HB2 : Hid (Below w.heap.size w w2) := (HB1.out.alloc hs1 _).trans (below_grown (World.ownsRow_made _ #[] 0 hs1 (by decide) rfl) hg2 (by simp; omega))
  have hs2 : w.heap.size ≤ w2.heap.size := HB2.out.size
  have HO2 : Hid (Octs w2 v2 zs) := Octs.owned hown2 HO.out.small
  obtain ⟨x2, cap2, rfl⟩ := HO2.out.shape
  rw [LN.out] at HO2 ⊢
  clear hown2 hg2
  by_cases h0 : n = 0
  · subst h0
    go_wp2_with fail
    refine (load_none _ _ _).mono ?_
    rintro e w3 ⟨rfl, hb3⟩
    have HB3 : Hid (Below w.heap.size w w3) := HB2.out.trans (hb3.mono hs2)
    clear hb3
    go_wp2
    go_ret
    exact ⟨rfl, HB3.out⟩
  · by_cases h128 : n % 128 = 0
    · obtain ⟨m, hm⟩ : ∃ m, n = 128 * m := ⟨n / 128, by omega⟩
      have hm1 : 1 ≤ m := by omega
      have hm2 : m ≤ 15 := by omega
      subst hm
      go_wp2_with fail
      refine (load_ok (fun k => k < w.heap.size) w2 _ zs m HO2.out LN.out hm1 (by omega) (fun k hk => by omega)).mono ?_
      rintro e w3 ⟨L, rfl, hD3, hb3⟩
      have HL : Hid (secsN (loadSt m (valW (xsTo zs m m))).see 0 m = zs) := load_see zs m LN.out HO.out.small
      have HE : Hid ((loadSt m (valW (xsTo zs m m))).crashed [] (-1) 0 = loadSt m (valW (xsTo zs m m)) ∧ (loadSt m (valW (xsTo zs m m))).n = m ∧ (loadSt m (valW (xsTo zs m m))).left = -1) := ⟨load_crashed _ _, rfl, rfl⟩
      generalize loadSt m (valW (xsTo zs m m)) = T at hD3 HL HE
      have HD3 : Hid (IsDisk (fun k => k < w.heap.size) w3 L T) := hD3
      have HZ : Hid (secsN T.see 0 T.n = zs) := by (show _ = _; rw [HE.out.2.1]; exact HL.out)
      have HB3 : Hid (Below w.heap.size w w3) := HB2.out.trans (hb3.mono hs2)
      clear hD3 hb3
      have HK : Hid (∀ w', Below w.heap.size w w' → (convert 22 9 (.slice a (128 * m) cap)).run Try.prog w' = .ok (.string (strN zs)) w') := fun w' hb => conv_octs (HO.out.kept hb) 22 5 9 Try.underlying22 Try.underlying5 Try.underlying9
      have HM : Hid (∀ w', Below w3.heap.size w3 w' → (convert 22 9 (.slice a (128 * m) cap)).run Try.prog w' = .ok (.string (strN zs)) w') := fun w' hb => HK.out w' (HB3.out.trans (hb.mono HB3.out.size))
      have HC3 : Hid ((convert 22 9 (.slice a (128 * m) cap)).run Try.prog w3 = .ok (.string (strN zs)) w3) := HM.out _ (Below.refl _ _)
      have q1 : (128 * (m : Int)) / 128 = (m : Int) := by omega
      have q4 : ((m : Int) != (m : Int)) = false := by simp
      have q6 : IntKind.i64.wrap (m : Int) = (m : Int) := by rw [IntKind.wrap_i64]; omega
      go_wp2_with fail
      go_region_held (fun w' => (convert 22 9 (.slice a (128 * m) cap)).run Try.prog w' = .ok (.string (strN zs)) w') (first | exact HM.out _ (Below.refl _ _).drew | exact HM.out _ HB4.out) (first
        | (go_at_call 9; refine (size_v HD3.out.drew).mono ?_; rintro e w4 ⟨rfl, rfl⟩; rw [HE.out.2.1])
        | (go_at_call 10; refine (image_c HD3.out HZ.out).mono ?_; rintro e w4 ⟨v4, rfl, hv4, HB4⟩))
      have HD4 : Hid (IsDisk (fun k => k < w.heap.size) w4 L T) := HD3.out.belowed HB4.out
      have HK4 : Hid (Kept (fun k => k < w.heap.size) w w4) := (Kept.ofBelow HB3.out (fun k hk => hk)).trans (Kept.ofBelow HB4.out (fun k hk => HD3.out.kl k hk))
      clear hv4
      go_wp2_with fail
      refine (crash_v HD4.out _ [] (Ints.nil _) (-1) 0).mono ?_
      rintro e w5 ⟨rfl, hD5, hk5⟩
      rw [HE.out.1] at hD5
      have HD5 : Hid (IsDisk (fun k => k < w.heap.size) w5 { L with wv := .slice none 0 0 } T) := hD5
      have HK5 : Hid (Kept (fun k => k < w.heap.size) w w5) := HK4.out.trans hk5
      clear hD5 hk5
      go_wp2_with fail
      refine (size_v HD5.out).mono ?_
      rintro e w6 ⟨rfl, rfl⟩
      rw [HE.out.2.1]
      go_wp2_with fail
      refine (read_ok HD5.out 0 m (by rw [HE.out.2.1]; omega) (by rw [HE.out.2.2]; decide)).mono ?_
      rintro e w7 ⟨v7, rfl, ho7, hD7, hk7⟩
      rw [HL.out] at ho7
      have hv7 := conv_octs (P := Try.prog) ho7 22 5 9 Try.underlying22 Try.underlying5 Try.underlying9
      have HK7 : Hid (Kept (fun k => k < w.heap.size) w w7) := HK5.out.trans hk7
      have hv8 := HK.out w7 (HK7.out.below (fun k hk => hk))
      obtain ⟨x7, cap7, e7⟩ := ho7.shape
      clear hD7 hk7 ho7
      subst e7
      go_wp2
      go_ret
      exact ⟨rfl, HK7.out.below (fun k hk => hk)⟩
    · have h9 : ¬ (n : Int) = 0 := by omega
      have h8 : ¬ (n : Int) % 128 = 0 := by omega
      have h7 : ¬ (n : Int).tmod 128 = 0 := by rw [Int.tmod_eq_emod_of_nonneg (by omega)]; exact h8
      have g1 : ((n : Int) == 0) = false := by simpa using h9
      have g2 : ((n : Int) % 128 != 0) = true := by simpa using h8
      go_wp2_with fail
      refine (load_odd _ _ n _ h128 (by omega)).mono ?_
      rintro e w3 ⟨rfl, rfl⟩
      go_wp2
      go_ret
      exact ⟨rfl, HB2.out⟩

set_option maxHeartbeats 400000 in
theorem diskLoads_walk (a0 : Option Addr) (len0 cap0 : Nat) (z0 : List Int) (w : World) (f0 : IsRow .u8 w a0 len0 cap0 z0) :
    Calls Try.prog 3 #[.slice a0 len0 cap0] w fun e w' => e = .returned (.bool true) ∧ Below w.heap.size w w' := by
  have h0 := Octs.ofRow f0
  have l0 := h0.lenLe
  clear f0
  by_cases hn : len0 ≤ 2000
  · exact loads_main a0 len0 cap0 _ w h0 hn
  · clear h0
    have hn' : (2000 : Int) < len0 := by omega
    go_enter Try.func3, Try.ntmps3
    go_wp2_with fail
    refine (awake3 _).mono ?_
    rintro e w1 ⟨rfl, hb1⟩
    have HB1 : Hid (Below w.heap.size w w1) := hb1
    have hs1 : w.heap.size ≤ w1.heap.size := hb1.size
    clear hb1
    go_wp2_with fail
    refine (awake3 _).mono ?_
    rintro e w2 ⟨rfl, hb2⟩
    have HB2 : Hid (Below w.heap.size w w2) := HB1.out.trans (hb2.mono hs1)
    clear hb2
    go_wp2
    go_ret
    exact ⟨rfl, HB2.out⟩
end Go.Proofs.Ytjjodmppneonjaa
