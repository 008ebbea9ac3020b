/- The walk of the law 'PackZigs' for every input. -/
import Derived.Test.YtclondljjfljpaaWalkAwake4
import Derived.Test.YtclondljjfljpaaWalkRef4
import Derived.Test.YtclondljjfljpaaLawFails4
import Derived.Test.YtclondljjfljpaaOpenFields4
namespace Go.Proofs.Ytclondljjfljpaa
open Go.RowKit
set_option linter.unusedVariables false

theorem encs_zig (n : Int) : encs [⟨1, n, 0, ByteArray.empty⟩] = varN (zigI n).toNat := by
  simp [encs, enc]
theorem puts_zig (n : Int) (hn1 : -9223372036854775808 ≤ n) (hn2 : n ≤ 9223372036854775807) (w : World) :
    Calls Try.prog 9 #[.slice (some ⟨w.heap.size, 0, none⟩) 1 1] (w.alloc (.cells #[.int .i64 1, .int .i64 n, .int .i64 0, .string ByteArray.empty] 31)) fun e w' =>
      ∃ v', e = .returned v' ∧ Octs w' v' (varN (zigI n).toNat) ∧ Below w.heap.size w w' := by
  refine (puts_any _ [⟨1, n, 0, ByteArray.empty⟩] _ (flds_one w ⟨1, n, 0, ByteArray.empty⟩ ⟨hn1, hn2⟩) (by simp) (by intro f hf; simp at hf; subst hf; exact Nat.zero_le _)).mono ?_
  rintro e w' ⟨v', rfl, ho, hb⟩
  rw [encs_zig] at ho
  exact ⟨v', rfl, ho, ((Below.refl _ _).alloc (Nat.le_refl _) _).trans (hb.mono (by simp))⟩
theorem varN_mono (n m : Int) (h0 : 0 ≤ n) (h : n ≤ m) : (varN (zigI n).toNat).length ≤ (varN (zigI m).toNat).length := by
  apply varN_le
  unfold zigI
  rw [if_pos h0, if_pos (by omega)]
  omega

/-- A nought in a block of its own. -/
theorem octs_zero (w : World) (B : Nat) (hB : w.heap.size = B) : Octs (w.alloc (.cells #[.int .u8 0] 5)) (.slice (some ⟨B, 0, none⟩) 1 1) [0] := by
  subst hB
  exact octs_single w 0 (by decide)

set_option maxHeartbeats 2000000 in
set_option maxRecDepth 20000 in
theorem zigs_main (n m : Int) (w : World) (hn1 : -9223372036854775808 ≤ n) (hn2 : n ≤ 9223372036854775807) (hm1 : -9223372036854775808 ≤ m) (hm2 : m ≤ 9223372036854775807)
    (L M : List Nat) (hL : varN (zigI n).toNat = L) (hM : varN (zigI m).toNat = M) (k c : Nat) (hk : L.length = k + 1) (hk9 : k ≤ 9) (hml : M.length ≤ 10) (hmono : ¬ (0 ≤ n ∧ n ≤ m) ∨ L.length ≤ M.length)
    (hc : L[k]?.getD 0 = c) (hc1 : c < 128) (hz : zigN (L.set k (c % 128 + 128) ++ [0]) = none) (hLo : ∀ z ∈ L, z < 256) :
    Calls Try.prog 5 #[.int .i64 n, .int .i64 m] w fun e w' => e = .returned (.bool true) ∧ Below w.heap.size w w' := by
  obtain ⟨i0, hi, hz0, hz1, hz2⟩ := info_parts Try.infoU8'
  have HL : Hid (varN (zigI n).toNat = L) := hL
  have HM : Hid (varN (zigI m).toNat = M) := hM
  have HK : Hid (L.length = k + 1) := hk
  have HC : Hid (L[k]?.getD 0 = c) := hc
  have HZ : Hid (zigN (L.set k (c % 128 + 128) ++ [0]) = none) := hz
  have HLo : Hid (∀ z ∈ L, z < 256) := hLo
  have HMN : Hid (¬ (0 ≤ n ∧ n ≤ m) ∨ L.length ≤ M.length) := hmono
  have HO1 : Hid (∀ w : World, Calls Try.prog 9 #[.slice (some ⟨w.heap.size, 0, none⟩) 1 1] (w.alloc (.cells #[.int .i64 1, .int .i64 n, .int .i64 0, .string ByteArray.empty] 31)) fun e w' => ∃ v', e = .returned v' ∧ Octs w' v' L ∧ Below w.heap.size w w') := fun w => by
    have := puts_zig n hn1 hn2 w
    rwa [HL.out] at this
  have HO2 : Hid (∀ w : World, Calls Try.prog 9 #[.slice (some ⟨w.heap.size, 0, none⟩) 1 1] (w.alloc (.cells #[.int .i64 1, .int .i64 m, .int .i64 0, .string ByteArray.empty] 31)) fun e w' => ∃ v', e = .returned v' ∧ Octs w' v' M ∧ Below w.heap.size w w') := fun w => by
    have := puts_zig m hm1 hm2 w
    rwa [HM.out] at this
  have HRZ : Hid (∀ w : World, Calls Try.prog 23 #[.int .i64 n] w fun e w' => e = .returned (.string (strN L)) ∧ Below w.heap.size w w') := fun w => by
    have := refZig4_any n w hn1 hn2
    rwa [HL.out] at this
  clear hL hM hc hz hLo hmono
  go_enter Try.func5, Try.ntmps5
  go_wp2_with fail
  refine (awake4 _).mono ?_
  rintro e w1 ⟨rfl, hb1⟩
  have HB1 : Hid (Below w.heap.size w w1) := hb1
  clear hb1
  go_wp2_with fail
  refine (HO1.out w1).mono ?_
  rintro e w2 ⟨v2, rfl, ho2, hb2⟩
  have HB2 : Hid (Below w.heap.size w w2) := HB1.out.trans (hb2.mono HB1.out.size)
  have HA2 : Hid (Octs w2 v2 L) := ho2
  obtain ⟨a2, cap2, rfl⟩ := ho2.shape
  clear hb2 ho2
  go_wp2_with fail
  refine (HO2.out w2).mono ?_
  rintro e w3 ⟨v3, rfl, ho3, hb3⟩
  have HB3 : Hid (Below w.heap.size w w3) := HB2.out.trans (hb3.mono HB2.out.size)
  have HA3 : Hid (Octs w3 (.slice a2 L.length cap2) L) := HA2.out.kept hb3
  obtain ⟨a3, cap3, rfl⟩ := ho3.shape
  clear hb3 ho3
  rw [hk] at HA3 HMN
  have hs3 : w.heap.size ≤ w3.heap.size := HB3.out.size
  have HCV : Hid (∀ w', Below w3.heap.size w3 w' → (convert 25 9 (.slice a2 (k + 1) cap2)).run Try.prog w' = .ok (.string (strN L)) w') := fun w' hb =>
    conv_octs (HA3.out.kept hb) _ _ _ Try.underlying25 Try.underlying5 Try.underlying9
  have q1 : ¬ ((k : Int) + 1 < 1) := by omega
  have q2 : ¬ ((10 : Int) < (k : Int) + 1) := by omega
  have q3 : ¬ (((k + 1 : Nat) : Int) < 1) := by omega
  have q4 : ¬ ((10 : Int) < ((k + 1 : Nat) : Int)) := by omega
  generalize hml2 : M.length = lm at HMN hml
  clear hml2 hk
  go_wp2
  go_region_held3 (fun w' => (convert 25 9 (.slice a2 (k + 1) cap2)).run Try.prog w' = .ok (.string (strN L)) w') (first | exact HCV.out _ (Below.refl _ _).drew | exact HCV.out _ HB4.out) (first
    | (go_at_call 23; refine (HRZ.out _).mono ?_; rintro e w4 ⟨rfl, hb4⟩; have HB4 : Hid (Below w3.heap.size w3 w4) := below_undrew hb4; clear hb4))
  all_goals
    have HB4' : Hid (Below w.heap.size w w4) := HB3.out.trans (HB4.out.mono hs3)
    have hs4 : w.heap.size ≤ w4.heap.size := HB4'.out.size
    have HA4 : Hid (Octs w4 (.slice a2 (k + 1) cap2) L) := HA3.out.kept HB4.out
    have hcase : (0 ≤ n ∧ n ≤ m ∧ ¬ (lm : Int) < (k : Int) + 1) ∨ (0 ≤ n ∧ ¬ n ≤ m) ∨ ¬ 0 ≤ n := by
      have := HMN.out
      omega
    clear HB4 q1 q2 q3 q4
    rcases hcase with ⟨u1, u2, u3⟩ | ⟨u1, u2⟩ | u1
  all_goals
    go_wp2_with (at_builtin; refine wpList_append_octs _ rfl _ _ 25 rfl w.heap.size 5 i0 Try.underlying25 hi hz0 hz1 hz2 _ 0 [] rfl (World.ownsRow_made _ #[] 0 hs4 (by decide) rfl) _ L rfl (HA4.out.alloc _) ?d1 ?d2 ?_)
    case d1 => rw [HK.out]; omega
    case d2 => first | omega | (simp; omega)
    intro v5 w5 hown5 hg5
    have HB5 : Hid (Below w.heap.size w w5) := (HB4'.out.alloc hs4 _).trans (below_grown (World.ownsRow_made _ #[] 0 hs4 (by decide) rfl) hg5 (by simp; omega))
    have hown5' : w5.ownsRow w.heap.size 5 1 v5 (k + 1) (u8s L) := by
      have := hown5
      rw [HK.out] at this
      simpa using this
    obtain ⟨g, cap5, e5, hg, hgl⟩ : ∃ g cap, v5 = .slice (some ⟨g, 0, none⟩) (k + 1) cap ∧ w.heap.size ≤ g ∧ g < w5.heap.size := by
      rcases hown5'.2 with ⟨_, h0⟩ | ⟨g, cap, cur, hv, hb, hg, _⟩
      · omega
      · exact ⟨g, cap, hv, hb, lt_of_heap hg⟩
    subst e5
    have c5 : w5.cell? ⟨g, k, none⟩ = some (.int .u8 (c : Nat)) := by
      rw [hown5'.cellAt k (by omega)]
      have hkl : k < L.length := by rw [HK.out]; omega
      have := HC.out
      rw [List.getElem?_eq_getElem hkl] at this
      simp [u8s, List.getElem?_eq_getElem hkl]
      have h2 : L[k] = c := by simpa using this
      omega
    have f5 := hown5'.frozenAt k
    have ho := or_u8 c (by omega)
    have HST := hown5'.stored k (.int .u8 ((c % 128 + 128 : Nat) : Int))
    rw [u8s_set] at HST
    have hd256 : c % 128 + 128 < 256 := by omega
    have HLS : Hid (∀ z ∈ L.set k (c % 128 + 128), z < 256) := by
      intro z hz
      rcases List.mem_or_eq_of_mem_set hz with h | h
      · exact HLo.out z h
      · omega
    have HLL : Hid ((L.set k (c % 128 + 128)).length = k + 1) := by unfold Hid; rw [List.length_set]; exact HK.out
    have HZ' := HZ
    generalize c % 128 + 128 = d at ho HST hd256 HLS HLL HZ'
    generalize L.set k d = L2 at HST HLS HLL HZ'
    have HOW : Hid ((w5.setCell ⟨g, k, none⟩ (.int .u8 (d : Nat))).ownsRow w.heap.size 5 1 (.slice (some ⟨g, 0, none⟩) (k + 1) cap5) (k + 1) (u8s L2)) := HST.1
    have HB6 : Hid (Below w.heap.size w (w5.setCell ⟨g, k, none⟩ (.int .u8 (d : Nat)))) := HB5.out.setCell (p := ⟨g, k, none⟩) hg _
    have hs6 : w.heap.size ≤ (w5.setCell ⟨g, k, none⟩ (.int .u8 (d : Nat))).heap.size := HB6.out.size
    clear hown5 hown5' hg5 HST
    go_wp2_with (at_builtin; refine wpList_append_octs _ rfl _ _ 25 rfl w.heap.size 5 i0 Try.underlying25 hi hz0 hz1 hz2 _ (k + 1) L2 rfl (HOW.out.alloc _) _ [0] rfl (octs_zero _ w5.heap.size (by simp)) ?d3 ?d4 ?_)
    case d3 => simp; omega
    case d4 => first | omega | (simp; omega)
    intro v7 w7 hown7 hg7
    have HB7 : Hid (Below w.heap.size w w7) := (HB6.out.alloc hs6 _).trans (below_grown (HOW.out.alloc _) hg7 (by simp at hs6 ⊢; omega))
    have HO7 : Hid (Octs w7 v7 (L2 ++ [0])) := Octs.owned hown7 (fun z hz => by
      rcases List.mem_append.1 hz with h | h
      · exact HLS.out z h
      · simp at h; omega)
    have HL7 : Hid ((L2 ++ [0]).length ≤ 100000) := by unfold Hid; rw [List.length_append, HLL.out]; simp; omega
    clear hown7 hg7
    go_wp2_with fail
    refine (read_octs _ _ _ HO7.out HL7.out).mono ?_
    rintro e w8 ⟨p, rfl, hr8, hb8, hp8⟩
    have HB8 : Hid (Below w.heap.size w w8) := HB7.out.trans (hb8.mono HB7.out.size)
    have HR8 : Hid (IsR w8 p ⟨L2 ++ [0], false⟩) := hr8
    have hp : w.heap.size ≤ p := Nat.le_trans HB7.out.size hp8
    clear hr8 hb8 hp8
    have HZN : Hid ((RS.mk (L2 ++ [0]) false).zigs = none) := HZ'.out
    have HZ1 : Hid ((RS.mk (L2 ++ [0]) false).zig = 0 ∧ (RS.mk (L2 ++ [0]) false).offZig = .failed) := by
      unfold Hid RS.zig RS.offZig; rw [HZN.out]; exact ⟨rfl, rfl⟩
    go_wp2_with fail
    refine (rzig_any HR8.out).mono ?_
    rintro e w9 ⟨rfl, hr9, hk9'⟩
    rw [HZ1.out.2] at hr9
    rw [HZ1.out.1]
    have HR9 : Hid (IsR w9 p .failed) := hr9
    have HB9 : Hid (Below w.heap.size w w9) := HB8.out.trans (hk9'.below hp HB8.out.size)
    clear hr9 hk9'
    go_wp2_with fail
    refine (fdone_any HR9.out).mono ?_
    rintro e w10 ⟨rfl, rfl⟩
    go_wp2_with fail
    refine (fleft_any HR9.out).mono ?_
    rintro e w11 ⟨rfl, rfl⟩
    go_wp2
    go_ret
    exact ⟨rfl, HB9.out⟩

theorem packZigs_walk (a0 a1 : Int) (w : World) (f0 : (Lit.int .i64 a0).wf = true) (f1 : (Lit.int .i64 a1).wf = true) :
    Calls Try.prog 5 #[.int .i64 a0, .int .i64 a1] w fun e w' => e = .returned (.bool true) ∧ Below w.heap.size w w' := by
  have h0 := wf_i64 f0
  have h1 := wf_i64 f1
  have z0 := zig_bd a0 h0.1 h0.2
  have z1 := zig_bd a1 h1.1 h1.2
  have u0 : (zigI a0).toNat < 18446744073709551616 := by omega
  have u1 : (zigI a1).toNat < 18446744073709551616 := by omega
  have ht := varN_ten u0
  have hl := varN_len (zigI a0).toNat
  have hsh := shape_at (varN_shape (zigI a0).toNat).1
  have hlong := zigN_long u0
  refine zigs_main a0 a1 w h0.1 h0.2 h1.1 h1.2 _ _ rfl rfl ((varN (zigI a0).toNat).length - 1) (lastN (varN (zigI a0).toNat)) (by omega) (by omega) (varN_ten u1) ?_ hsh.1 hsh.2.1 hlong (varN_oct _)
  by_cases h : 0 ≤ a0 ∧ a0 ≤ a1
  · exact .inr (varN_mono a0 a1 h.1 h.2)
  · exact .inl h
end Go.Proofs.Ytclondljjfljpaa
