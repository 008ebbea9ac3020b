/- The walk of the law 'CrcTwice': it returns true for every input, where the program's table lies as it was laid. -/
import Derived.Test.YtbgnfipnkmfmlaaDoorWalkOpen
import Derived.Test.YtbgnfipnkmfmlaaDoorWalkRef2
import Derived.Deep.RegionHeld3
import Derived.Laws.IdiomStrings
namespace Go.Proofs.YtbgnfipnkmfmlaaDoor
open Go.RowKit
set_option linter.unusedVariables false

/-- '[]byte(s)': new octets. -/
theorem bytes_octs {P : Program} (w : World) (zs : List Nat) (m : Nat) (hm : zs.length = m) (src dst e : TypeId) (hs : P.underlying src = some .string) (hd : P.underlying dst = some (.slice e)) (he : P.underlying e = some (.int .u8)) (hz : ∀ z ∈ zs, z < 256) (hl : zs.length ≤ 100000) :
    ∃ cap w', (convert src dst (.string (strN zs))).run P w = .ok (.slice (some ⟨w.heap.size, 0, none⟩) m cap) w' ∧ m ≤ cap ∧ cap ≤ maxLen ∧ w.heap.size < w'.heap.size ∧ OctAt w' w.heap.size 0 zs ∧ Below w.heap.size w w' := by
  subst hm
  have hrun := run_bytes_of_string (P := P) w src dst e (strN zs) hs hd he
  rw [strN_size] at hrun
  have hge := grownCap_ge w zs.length 0 e
  refine ⟨_, _, hrun, hge, grownCap_le_maxLen w _ _ _ (by unfold maxLen; omega), by simp, ?_, ?_⟩
  · intro j hj
    rw [Nat.zero_add]
    have := cell_new w.drew (bytesRow (strN zs) (grownCap w zs.length 0 e)) e ((bytesRow (strN zs) (grownCap w zs.length 0 e)).size, (bytesRow (strN zs) (grownCap w zs.length 0 e)).size + 1) j
    refine Eq.trans this ?_
    have hd : (strN zs).data.size = zs.length := strN_size zs
    have hz' := hz _ (List.getElem_mem hj)
    unfold bytesRow
    rw [Array.getElem?_append_left (by simp [hd, hj]), Array.getElem?_map, Array.getElem?_eq_getElem (by rw [hd]; exact hj)]
    simp [strN, strOfNums, List.getElem?_eq_getElem hj]
    omega
  · exact ((Below.refl _ _).drew).alloc (Nat.le_refl _) _

/-- Which octets are sealed, as the reference asks it. -/
theorem sealedB_str (zs : List Nat) (h : ∀ z ∈ zs, z < 256) (h4 : 4 ≤ zs.length) : sealedB zs = decide (strN (zs.take (zs.length - 4) ++ octN (crcSum (zs.take (zs.length - 4)))) = strN zs) := by
  have hp : ∀ z ∈ zs.take (zs.length - 4), z < 256 := fun z hz => h z (List.mem_of_mem_take hz)
  have hs := crcSum_lt _ hp
  have hl : (zs.drop (zs.length - 4)).length = 4 := by rw [List.length_drop]; omega
  have hd : ∀ z ∈ zs.drop (zs.length - 4), z < 256 := fun z hz => h z (List.mem_of_mem_drop hz)
  have e1 : zs.take (zs.length - 4) ++ zs.drop (zs.length - 4) = zs := List.take_append_drop _ _
  rw [Bool.eq_iff_iff, decide_eq_true_iff]
  have e2 := sealedB_parts (zs.take (zs.length - 4)) (zs.drop (zs.length - 4)) hl
  rw [e1] at e2
  rw [e2, beq_iff_eq]
  generalize zs.take (zs.length - 4) = p at *
  generalize hdd : zs.drop (zs.length - 4) = d at *
  subst e1
  constructor
  · intro hn
    rw [← hn]
    match d, hl, hd with
    | [q, r, s, t], _, hd => rw [numN_octN _ _ _ _ (hd q (by simp)) (hd r (by simp)) (hd s (by simp)) (hd t (by simp))]
  · intro he
    have h3 := strN_inj (fun z hz => by
      rcases List.mem_append.1 hz with hz | hz
      · exact hp z hz
      · exact octN_small _ z hz) h he
    have h4 := List.append_cancel_left h3
    rw [← h4, octN_num _ hs]

theorem toList_beq (a b : ByteArray) : (a.toList == b.toList) = decide (a = b) := by
  rw [Bool.eq_iff_iff, beq_iff_eq, decide_eq_true_iff]
  constructor
  · intro h
    rw [ByteArray.toList_eq, ByteArray.toList_eq] at h
    exact ByteArray.ext (Array.toList_inj.1 h)
  · intro h; rw [h]

set_option maxHeartbeats 1000000 in
theorem twice_main (a : Option Addr) (n ca : Nat) (zs : List Nat) (w : World) (ha : Octs w (.slice a n ca) zs) (ht : Steps w) (hn : n ≤ 500) :
    Calls Tryd.prog 7 #[.slice a n ca] w fun e w' => e = .returned (.bool true) ∧ Below w.heap.size w w' := by
  obtain ⟨i0, hi, hz0, hz1, hz2⟩ := info_parts Tryd.infoU8'
  have HA : Hid (Octs w (.slice a n ca) zs) := ha
  have HT : Hid (Steps w) := ht
  have LA : Hid (zs.length = n) := ha.lenEq
  have SA : Hid (∀ z ∈ zs, z < 256) := ha.small
  clear ha ht
  go_enter Tryd.func7, Tryd.ntmps7
  go_wp2_with fail
  refine (awake_any _ HT.out).mono ?_
  rintro e w1 ⟨rfl, hb1⟩
  have HB1 : Hid (Below w.heap.size w w1) := hb1
  clear hb1
  go_wp2_with fail
  refine (seal_octs _ zs _ (HA.out.kept HB1.out) (by rw [LA.out]; omega) (HT.out.below HB1.out)).mono ?_
  rintro e w2 ⟨a2, cap2, rfl, ho2, hb2⟩
  rw [LA.out] at ho2 ⊢
  have HP1 : Hid (sealedB (zs ++ octN (crcSum zs)) = true) := sealedB_seal zs SA.out
  have HQ1 : Hid (openL (zs ++ octN (crcSum zs)) = zs) := openL_seal zs SA.out
  have HO2 : Hid (Octs w2 (.slice a2 (n + 4) cap2) (zs ++ octN (crcSum zs))) := ho2
  have HB2 : Hid (Below w.heap.size w w2) := HB1.out.trans (hb2.mono HB1.out.size)
  have L2 : Hid ((zs ++ octN (crcSum zs)).length = n + 4) := ho2.lenEq
  clear ho2 hb2
  generalize zs ++ octN (crcSum zs) = s1 at *
  go_wp2_with fail
  refine (seal_octs _ s1 _ HO2.out (by rw [L2.out]; omega) (HT.out.below HB2.out)).mono ?_
  rintro e w3 ⟨a3, cap3, rfl, ho3, hb3⟩
  rw [show s1.length + 4 = n + 8 by rw [L2.out]] at ho3 ⊢
  have HP2 : Hid (sealedB (s1 ++ octN (crcSum s1)) = true) := sealedB_seal s1 HO2.out.small
  have HQ2 : Hid (openL (s1 ++ octN (crcSum s1)) = s1) := openL_seal s1 HO2.out.small
  have HO3 : Hid (Octs w3 (.slice a3 (n + 8) cap3) (s1 ++ octN (crcSum s1))) := ho3
  have HB3 : Hid (Below w.heap.size w w3) := HB2.out.trans (hb3.mono HB2.out.size)
  have L3 : Hid ((s1 ++ octN (crcSum s1)).length = n + 8) := ho3.lenEq
  clear ho3 hb3
  generalize s1 ++ octN (crcSum s1) = ss at *
  go_wp2_with fail
  refine (open_v _ ss _ HO3.out (by rw [L3.out]; omega) (HT.out.below HB3.out)).mono ?_
  rintro e w4 ⟨a4, n4, cap4, rfl, ho4, hb4⟩
  rw [HP2.out]
  rw [HQ2.out] at ho4
  have HO4 : Hid (Octs w4 (.slice a4 n4 cap4) s1) := ho4
  have HB4 : Hid (Below w.heap.size w w4) := HB3.out.trans (hb4.mono HB3.out.size)
  have HB34 : Hid (Below w3.heap.size w3 w4) := hb4
  clear ho4 hb4
  go_wp2_with fail
  refine (open_v _ s1 _ HO4.out (by rw [L2.out]; omega) (HT.out.below HB4.out)).mono ?_
  rintro e w5 ⟨a5, n5, cap5, rfl, ho5, hb5⟩
  rw [HP1.out]
  rw [HQ1.out] at ho5
  have HO5 : Hid (Octs w5 (.slice a5 n5 cap5) zs) := ho5
  have HB5 : Hid (Below w.heap.size w w5) := HB4.out.trans (hb5.mono HB4.out.size)
  have HS5 : Hid (Octs w5 (.slice a3 (n + 8) cap3) ss) := (HO3.out.kept HB34.out).kept hb5
  have hsz5 : w.heap.size ≤ w5.heap.size := HB5.out.size
  clear ho5 hb5
  go_wp2_with (at_builtin; refine wpList_append_octs _ rfl _ _ 26 rfl w5.heap.size 5 i0 Tryd.underlying26 hi hz0 hz1 hz2 _ 0 [] rfl (World.ownsRow_made _ #[] 0 (Nat.le_refl _) (by decide) rfl) _ ss rfl (HS5.out.alloc _) ?d1 ?d2 ?_)
  case d1 => rw [L3.out]; omega
  case d2 => simp
  intro v6 w6 hown6 hg6
  have HB56 : Hid (Below w5.heap.size w5 w6) := ((Below.refl _ _).alloc (Nat.le_refl _) _).trans (below_grown (World.ownsRow_made _ #[] 0 (Nat.le_refl _) (by decide) rfl) hg6 (by simp))
  have HO6 : Hid (w6.ownsRow w5.heap.size 5 1 v6 ss.length (u8s ss)) := by unfold Hid; simpa using hown6
  clear hown6 hg6
  go_wp2_with (at_builtin; refine wpList_append_octs _ rfl _ _ 26 rfl w5.heap.size 5 i0 Tryd.underlying26 hi hz0 hz1 hz2 _ ss.length ss rfl HO6.out _ ss rfl (HS5.out.kept HB56.out) ?e1 ?e2 ?_)
  case e1 => rw [L3.out]; omega
  case e2 => exact HB56.out.size
  intro v7 w7 hown7 hg7
  have HB57 : Hid (Below w5.heap.size w5 w7) := HB56.out.trans (below_grown HO6.out hg7 HB56.out.size)
  have HO7 : Hid (Octs w7 v7 (ss ++ ss)) := Octs.owned hown7 (fun z hz => by
    rcases List.mem_append.1 hz with h | h <;> exact HS5.out.small z h)
  clear hown7 hg7
  go_wp2_with fail
  refine (open_v _ (ss ++ ss) _ HO7.out (by rw [List.length_append, L3.out]; omega) ((HT.out.below HB5.out).below HB57.out)).mono ?_
  rintro e w8 ⟨a8, n8, cap8, rfl, ho8, hb8⟩
  have HB58 : Hid (Below w5.heap.size w5 w8) := HB57.out.trans (hb8.mono HB57.out.size)
  have HB8 : Hid (Below w.heap.size w w8) := HB5.out.trans (HB58.out.mono HB5.out.size)
  have HS8 : Hid (Octs w8 (.slice a3 (n + 8) cap3) ss) := HS5.out.kept HB58.out
  have HY8 : Hid (Octs w8 (.slice a5 n5 cap5) zs) := HO5.out.kept HB58.out
  have HA8 : Hid (Octs w8 (.slice a n ca) zs) := HA.out.kept HB8.out
  clear ho8 hb8
  have HK : Hid (∀ w', Below w8.heap.size w8 w' → (convert 26 9 (.slice a5 n5 cap5)).run Tryd.prog w' = .ok (.string (strN zs)) w' ∧ (convert 26 9 (.slice a n ca)).run Tryd.prog w' = .ok (.string (strN zs)) w' ∧ (convert 26 9 (.slice a3 (n + 8) cap3)).run Tryd.prog w' = .ok (.string (strN ss)) w') := fun w' hb =>
    ⟨conv_octs (HY8.out.kept hb) _ _ _ Tryd.underlying26 Tryd.underlying5 Tryd.underlying9, conv_octs (HA8.out.kept hb) _ _ _ Tryd.underlying26 Tryd.underlying5 Tryd.underlying9, conv_octs (HS8.out.kept hb) _ _ _ Tryd.underlying26 Tryd.underlying5 Tryd.underlying9⟩
  obtain ⟨cap9, w9, hrun9, hc1, hc2, hlt9, hat9, hb9⟩ := bytes_octs (P := Tryd.prog) w8.drew (ss ++ ss) (2 * n + 16) (by rw [List.length_append, L3.out]; omega) 9 26 5 Tryd.underlying9 Tryd.underlying26 Tryd.underlying5 (fun z hz => by
    rcases List.mem_append.1 hz with h | h <;> exact HS8.out.small z h) (by rw [List.length_append, L3.out]; omega)
  rw [← strN_append] at hrun9
  have HB9 : Hid (Below w8.heap.size w8 w9) := below_undrew hb9
  have HO9 : Hid (Octs w9 (.slice (some ⟨w8.heap.size, 0, none⟩) (2 * n + 12) cap9) ((ss ++ ss).take (2 * n + 12))) := by
    have hl : ((ss ++ ss).take (2 * n + 12)).length = 2 * n + 12 := by rw [List.length_take, List.length_append, L3.out]; omega
    refine ⟨fun z hz => ?_, by rw [hl]; unfold maxLen; omega, _, cap9, by rw [hl]; rfl, by rw [hl]; omega, hc2, .inr ⟨_, rfl, .inr ⟨_, 0, rfl, hlt9, ?_⟩⟩⟩
    · rcases List.mem_append.1 (List.mem_of_mem_take hz) with h | h <;> exact HS8.out.small z h
    · intro j hj
      rw [hl] at hj
      rw [List.getElem?_take_of_lt hj]
      exact hat9 j (by rw [List.length_append, L3.out]; omega)
  obtain ⟨q, hq⟩ : ∃ q, q = 2 * n + 12 := ⟨_, rfl⟩
  have HQ : Hid (q = 2 * n + 12) := hq
  rw [← hq] at HO9
  have hk0 : (0 : Int) ≤ (q : Int) := by omega
  have hk1 : (q : Int) ≤ (cap9 : Int) := by omega
  have hk5 : ¬ cap9 = 0 := by omega
  have hk7 : q ≤ 100000 := by omega
  have hk2 : IntKind.i64.wrap ((n : Int) + 8) = (n : Int) + 8 := by rw [IntKind.wrap_i64]; omega
  have hk3 : IntKind.i64.wrap (2 * ((n : Int) + 8)) = 2 * ((n : Int) + 8) := by rw [IntKind.wrap_i64]; omega
  have hk4 : IntKind.i64.wrap (2 * ((n : Int) + 8) - 4) = (q : Int) := by rw [IntKind.wrap_i64]; omega
  have hk6 : (9223372036854775807 < (strN ss).size + (strN ss).size) = False := by
    rw [strN_size, L3.out]; simp; omega
  have HF : Hid ((sealedB (ss ++ ss) == ((strN ((ss ++ ss).take q ++ octN (crcSum ((ss ++ ss).take q)))).toList == (strN ss ++ strN ss).toList)) = true) := by
    have hl : (ss ++ ss).length = q + 4 := by rw [List.length_append, L3.out]; omega
    have e := sealedB_str (ss ++ ss) (fun z hz => by rcases List.mem_append.1 hz with h | h <;> exact HS8.out.small z h) (by omega)
    rw [hl, Nat.add_sub_cancel] at e
    unfold Hid
    rw [e, strN_append, toList_beq]
    simp
  clear hat9 hb9 hq hc1 hc2 hlt9
  go_wp2_with fail
  go_region_held (fun w' => (convert 26 9 (.slice a5 n5 cap5)).run Tryd.prog w' = .ok (.string (strN zs)) w' ∧ (convert 26 9 (.slice a n ca)).run Tryd.prog w' = .ok (.string (strN zs)) w' ∧ (convert 26 9 (.slice a3 (n + 8) cap3)).run Tryd.prog w' = .ok (.string (strN ss)) w') (first | exact HK.out _ ((Below.refl _ _).drew) | exact HK.out _ HB9.out | exact HK.out _ HB10.out) (first
    | (go_at_call 15; refine (refSeal_octs _ ((ss ++ ss).take q) _ ?_ ?_).mono ?_; (· exact HO9.out); (· rw [HO9.out.lenEq]; exact hk7); rintro e w10 ⟨rfl, hb10⟩; have HB10 : Hid (Below w8.heap.size w8 w10) := HB9.out.trans (hb10.mono HB9.out.size); clear hb10))
  all_goals
    rw [HF.out]
    go_wp2
    go_ret
    exact ⟨rfl, HB8.out.trans (HB10.out.mono HB8.out.size)⟩

theorem crcTwice_walk (a0 : Option Addr) (len0 cap0 : Nat) (z0 : List Int) (w : World) (ht : Steps w) (f0 : IsRow .u8 w a0 len0 cap0 z0) :
    Calls Tryd.prog 7 #[.slice a0 len0 cap0] w fun e w' => e = .returned (.bool true) ∧ Below w.heap.size w w' := by
  have h0 := Octs.ofRow f0
  have l0 := h0.lenLe
  have HT : Hid (Steps w) := ht
  clear f0
  by_cases hn : len0 ≤ 500
  · exact twice_main a0 len0 cap0 _ w h0 ht hn
  · clear h0 ht
    have hn' : (500 : Int) < len0 := by omega
    go_enter Tryd.func7, Tryd.ntmps7
    go_wp2_with fail
    refine (awake_any _ HT.out).mono ?_
    rintro e w1 ⟨rfl, hb1⟩
    have HB1 : Hid (Below w.heap.size w w1) := hb1
    clear hb1
    go_wp2_with fail
    refine (awake_any _ (HT.out.below HB1.out)).mono ?_
    rintro e w2 ⟨rfl, hb2⟩
    go_wp2
    go_ret
    exact ⟨rfl, HB1.out.trans (hb2.mono HB1.out.size)⟩
end Go.Proofs.YtbgnfipnkmfmlaaDoor
