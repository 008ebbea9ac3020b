/- The law 'EntryLists'. -/
import Derived.Test.YtfclhehpbniapaaAwake11
import Derived.Test.YtfclhehpbniapaaRefGet11
namespace Go.Proofs.Ytfclhehpbniapaa
open Go.RowKit
set_option linter.unusedVariables false

theorem same11_b (w : World) (x y : Value) (us : List Md) (hx : Els encM 5 w x us) (hy : Els encM 5 w y us) :
    Calls Try.prog 10 #[x, y] w fun e w' => e = .returned (.bool true) ∧ Below w.heap.size w w' := by
  refine (same11_any w x y us hx hy).mono ?_
  rintro e w' ⟨rfl, m, rfl⟩
  exact ⟨rfl, below_dr w m⟩

set_option maxRecDepth 20000 in
set_option maxHeartbeats 4000000 in
theorem lists_main (n : Int) (a1 : Option Addr) (len1 cap1 : Nat) (l : List Md) (a2 : Option Addr) (len2 cap2 : Nat) (zs : List Nat) (w : World) (f1 : Els encM 5 w (.slice a1 len1 cap1) l) (g1 : ∀ y ∈ l, MdI y) (f2 : Octs w (.slice a2 len2 cap2) zs) (h1 : len1 ≤ 20) (h2 : len2 ≤ 600) :
    Calls Try.prog 3 #[.int .i64 n, .slice a1 len1 cap1, .slice a2 len2 cap2] w fun e w' => e = .returned (.bool true) ∧ Below w.heap.size w w' := by
  obtain ⟨i0, hi, hz0, hz1, hz2⟩ := info_parts Try.infoU8'
  have HE : Hid (Els encM 5 w (.slice a1 len1 cap1) l) := f1
  have HI : Hid (∀ y ∈ l, MdI y) := g1
  have HU : Hid (∀ y ∈ l, y.u < 4294967296) := fun y hy => (g1 y hy).2.2.2.2
  have HO : Hid (Octs w (.slice a2 len2 cap2) zs) := f2
  have HL1 : Hid (l.length = len1) := f1.lenEq
  have HL2 : Hid (zs.length = len2) := f2.lenEq
  have hi1 : ¬ (20 : Int) < len1 := by omega
  have hi2 : ¬ (600 : Int) < len2 := by omega
  clear f1 g1 f2
  go_enter Try.func3, Try.ntmps3
  go_wp2_with fail
  refine (awake11 _).mono ?_
  rintro e w1 ⟨rfl, hb1⟩
  have HB1 : Hid (Below w.heap.size w w1) := hb1
  clear hb1
  go_wp2_with fail
  refine (put11_any w1 _ l (HE.out.kept HB1.out) HU.out (by rw [HL1.out]; omega)).mono ?_
  rintro e w2 ⟨v2, rfl, ho2, hb2⟩
  have HB2 : Hid (Below w.heap.size w w2) := HB1.out.trans (hb2.mono HB1.out.size)
  have HS2 : Hid (Octs w2 v2 (putM l)) := ho2
  obtain ⟨sa, sc, e2⟩ := ho2.shape
  subst e2
  obtain ⟨PL, hPL⟩ : ∃ PL, PL = (putM l).length := ⟨_, rfl⟩
  rw [← hPL] at HS2 ⊢
  have HPL : Hid (PL = 4 + 18 * len1) := by unfold Hid; rw [hPL, putM_length, HL1.out]
  have hPb : PL ≤ 364 := by have := HPL.out; omega
  clear hb2 ho2 HB1 hPL
  go_wp2_with fail
  refine (get11_any w2 n _ zs (HO.out.kept HB2.out) (by rw [HL2.out]; omega)).mono ?_
  rintro e w3 ⟨x3, rfl, hx3, hb3⟩
  have HB3 : Hid (Below w2.heap.size w2 w3) := hb3
  have HX3 : Hid (Els encM 5 w3 x3 ((getM n zs).getD [])) := hx3
  obtain ⟨K, hK⟩ : ∃ K, K = ansC (getM n zs) := ⟨_, rfl⟩
  rw [← hK]
  have HB3w : Hid (Below w.heap.size w w3) := HB2.out.trans (hb3.mono HB2.out.size)
  have hcv3 := conv_octs (P := Try.prog) (HO.out.kept HB3w.out) _ _ _ Try.underlying23 Try.underlying5 Try.underlying9
  clear hb3 hx3
  go_wp2_with fail
  refine (refGet11_any w3 n zs HO.out.small (by rw [HL2.out]; omega)).mono ?_
  rintro e w4 ⟨x4, rfl, hx4, hb4⟩
  rw [← hK]
  have HX4 : Hid (Els encM 5 w4 x4 ((getM n zs).getD [])) := hx4
  have HX34 : Hid (Els encM 5 w4 x3 ((getM n zs).getD [])) := HX3.out.kept hb4
  have HB4 : Hid (Below w2.heap.size w2 w4) := HB3.out.trans (hb4.mono HB3.out.size)
  have HB4w : Hid (Below w.heap.size w w4) := HB3w.out.trans (hb4.mono HB3w.out.size)
  have HS4 : Hid (Octs w4 (.slice sa PL sc) (putM l)) := HS2.out.kept HB4.out
  have HCV : Hid (∀ w', Below w4.heap.size w4 w' → (convert 23 9 (.slice sa PL sc)).run Try.prog w' = .ok (.string (strN (putM l))) w') := fun w' h => conv_octs (P := Try.prog) (HS4.out.kept h) _ _ _ Try.underlying23 Try.underlying5 Try.underlying9
  generalize (getM n zs).getD [] = us at *
  clear hb4 hx4 hcv3 hK HB3 HB3w HX3
  go_wp2_with fail
  go_region_held3 (fun w' => (convert 23 9 (.slice sa PL sc)).run Try.prog w' = .ok (.string (strN (putM l))) w') (first | exact HCV.out _ (Below.refl _ _).drew | exact HCV.out _ HB6.out | exact HCV.out _ HB5.out) (first
    | (go_at_call 10; refine (same11_b _ _ _ us (HX34.out.kept HB5.out) (HX4.out.kept HB5.out)).mono ?_; rintro e w6 ⟨rfl, hb6⟩
       have HB6 : Hid (Below w4.heap.size w4 w6) := HB5.out.trans (hb6.mono HB5.out.size)
       clear hb6)
    | (go_at_call 9; refine (refPut11_any _ _ l ((HE.out.kept HB4w.out).kept (Below.refl _ _).drew) HU.out (by rw [HL1.out]; omega)).mono ?_; rintro e w5 ⟨rfl, hb5⟩
       have HB5 : Hid (Below w4.heap.size w4 w5) := below_undrew hb5
       clear hb5))
  all_goals
    have HB6w : Hid (Below w.heap.size w w6) := HB4w.out.trans (HB6.out.mono HB4w.out.size)
    have HS6 : Hid (Octs w6 (.slice sa PL sc) (putM l)) := HS4.out.kept HB6.out
    clear HB5 HB6 HCV HS4 HX34 HX4 HB4 HB4w HS2 HB2
    go_wp2_with fail
    refine (refRight11_any w6 _ l n (HE.out.kept HB6w.out) (by rw [HL1.out]; omega)).mono ?_
    rintro e w7 ⟨rfl, hb7⟩
    have HB7 : Hid (Below w.heap.size w w7) := HB6w.out.trans (hb7.mono HB6w.out.size)
    have HS7 : Hid (Octs w7 (.slice sa PL sc) (putM l)) := HS6.out.kept hb7
    clear hb7 HB6w HS6
    go_wp2_with fail
    refine (right11_any w7 _ l n (HE.out.kept HB7.out) HI.out (by rw [HL1.out]; omega)).mono ?_
    rintro e w8 ⟨rfl, hb8⟩
    have HB8 : Hid (Below w.heap.size w w8) := HB7.out.trans (hb8.mono HB7.out.size)
    have HS8 : Hid (Octs w8 (.slice sa PL sc) (putM l)) := HS7.out.kept hb8
    have HGP : Hid (rightM n l = true → n ≤ 4294967296 → getM n (putM l ++ zs) = some l) := fun hr hn => get_put hr hn (by rw [HL1.out]; omega) HU.out
    generalize rightM n l = R at *
    clear hb8 HB7 HS7
    cases R
    · go_wp2_with fail
      go_ret
      exact ⟨rfl, HB8.out⟩
    · by_cases hn : 4294967296 < n
      · go_wp2_with fail
        go_ret
        exact ⟨rfl, HB8.out⟩
      · have HGG : Hid (getM n (putM l ++ zs) = some l) := HGP.out rfl (by omega)
        have HGT : Hid (∀ W v, Octs W v (putM l ++ zs) → Calls Try.prog 7 #[.int .i64 n, v] W fun e w' => ∃ x, e = .returned (.tuple #[x, .int .i64 (PL : Nat)]) ∧ Els encM 5 w' x l ∧ Below W.heap.size W w') := fun W v h => by
          refine (get11_any W n v (putM l ++ zs) h (by rw [List.length_append, HS8.out.lenEq, HL2.out]; omega)).mono ?_
          rintro e w' ⟨u, he, hu, hb⟩
          rw [HGG.out] at he hu
          refine ⟨u, ?_, hu, hb⟩
          rw [he]
          have hK11 : ansC (some l) = (PL : Nat) := by
            show 4 + 18 * ((l.length : Nat) : Int) = (PL : Nat)
            rw [HL1.out]
            have := HPL.out
            omega
          rw [hK11]
        clear HGP HGG
        go_wp2_with (at_builtin; refine wpList_append_octs _ rfl _ _ 23 rfl w8.heap.size 5 i0 Try.underlying23 hi hz0 hz1 hz2 _ 0 [] rfl (World.ownsRow_made _ #[] 0 (Nat.le_refl _) (by decide) rfl) _ (putM l) rfl (HS8.out.alloc _) ?d1 ?d2 ?_)
        case d1 => rw [HS8.out.lenEq]; omega
        case d2 => simp
        intro v9 w9 hown9 hg9
        have HB9 : Hid (Below w8.heap.size w8 w9) := ((Below.refl _ _).alloc (Nat.le_refl _) _).trans (below_grown (World.ownsRow_made _ #[] 0 (Nat.le_refl _) (by decide) rfl) hg9 (by simp))
        have HW9 : Hid (w9.ownsRow w8.heap.size 5 1 v9 PL (u8s (putM l))) := by rw [HS8.out.lenEq] at hown9; simpa [Hid] using hown9
        have HB9w : Hid (Below w.heap.size w w9) := HB8.out.trans (HB9.out.mono HB8.out.size)
        clear hown9 hg9
        go_wp2_with (at_builtin; refine wpList_append_octs _ rfl _ _ 23 rfl w8.heap.size 5 i0 Try.underlying23 hi hz0 hz1 hz2 _ PL (putM l) rfl HW9.out _ zs rfl (HO.out.kept HB9w.out) ?d3 ?d4 ?_)
        case d3 => rw [HL2.out]; omega
        case d4 => exact HB9.out.size
        intro v10 w10 hown10 hg10
        have HB10 : Hid (Below w8.heap.size w8 w10) := HB9.out.trans (below_grown HW9.out hg10 HB9.out.size)
        have HO10 : Hid (Octs w10 v10 (putM l ++ zs)) := Octs.owned hown10 (fun z hz => (List.mem_append.1 hz).elim (putM_small l z) (HO.out.small z))
        have HB10w : Hid (Below w.heap.size w w10) := HB8.out.trans (HB10.out.mono HB8.out.size)
        clear hown10 hg10 HW9 HB9 HB9w HB10
        obtain ⟨a10, c10, e10⟩ := HO10.out.shape
        generalize (putM l ++ zs).length = NL at e10
        subst e10
        go_wp2_with fail
        refine (HGT.out w10 _ HO10.out).mono ?_
        rintro e w11 ⟨x11, rfl, hx11, hb11⟩
        have HB11 : Hid (Below w.heap.size w w11) := HB10w.out.trans (hb11.mono HB10w.out.size)
        have HX11 : Hid (Els encM 5 w11 x11 l) := hx11
        clear hb11 hx11 HO10 HB10w HGT
        go_wp2_with fail
        refine (same11_b w11 _ _ l HX11.out (HE.out.kept HB11.out)).mono ?_
        rintro e w12 ⟨rfl, hb12⟩
        have HB12 : Hid (Below w.heap.size w w12) := HB11.out.trans (hb12.mono HB11.out.size)
        clear hb12
        go_wp2_with fail
        go_ret
        exact ⟨rfl, HB12.out⟩

set_option maxRecDepth 20000 in
theorem entryLists_walk (n : Int) (a1 : Option Addr) (len1 cap1 : Nat) (l : List Md) (a2 : Option Addr) (len2 cap2 : Nat) (z2 : List Int) (w : World) (f0 : (Lit.int .i64 n).wf = true) (f1 : Els encM 5 w (.slice a1 len1 cap1) l) (g1 : ∀ y ∈ l, MdI y) (f2 : IsRow .u8 w a2 len2 cap2 z2) :
    Calls Try.prog 3 #[.int .i64 n, .slice a1 len1 cap1, .slice a2 len2 cap2] w fun e w' => e = .returned (.bool true) ∧ Below w.heap.size w w' := by
  have ho := Octs.ofRow f2
  have hm1 : len1 ≤ 9223372036854775807 := by have := f1.capLe; unfold maxLen at this; omega
  have hm2 := ho.lenLe
  by_cases h1 : len1 ≤ 20
  · by_cases h2 : len2 ≤ 600
    · exact lists_main n a1 len1 cap1 l a2 len2 cap2 _ w f1 g1 ho h1 h2
    · have hi1 : ¬ (20 : Int) < len1 := by omega
      have hi2 : (600 : Int) < len2 := by omega
      clear f0 f1 g1 f2 ho
      go_enter Try.func3, Try.ntmps3
      go_wp2_with fail
      refine (awake11 _).mono ?_
      rintro e w1 ⟨rfl, hb1⟩
      have HB1 : Hid (Below w.heap.size w w1) := hb1
      clear hb1
      go_wp2_with fail
      refine (awake11 _).mono ?_
      rintro e w2 ⟨rfl, hb2⟩
      have HB2 : Hid (Below w.heap.size w w2) := HB1.out.trans (hb2.mono HB1.out.size)
      clear hb2
      go_wp2_with fail
      go_ret
      exact ⟨rfl, HB2.out⟩
  · have hi1 : (20 : Int) < len1 := by omega
    clear f0 f1 g1 f2 ho
    go_enter Try.func3, Try.ntmps3
    go_wp2_with fail
    refine (awake11 _).mono ?_
    rintro e w1 ⟨rfl, hb1⟩
    have HB1 : Hid (Below w.heap.size w w1) := hb1
    clear hb1
    go_wp2_with fail
    refine (awake11 _).mono ?_
    rintro e w2 ⟨rfl, hb2⟩
    have HB2 : Hid (Below w.heap.size w w2) := HB1.out.trans (hb2.mono HB1.out.size)
    clear hb2
    go_wp2_with fail
    go_ret
    exact ⟨rfl, HB2.out⟩
end Go.Proofs.Ytfclhehpbniapaa
