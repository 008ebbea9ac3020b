/- The document's Sum of a page. -/
import Derived.Test.YtfclhehpbniapaaDoorWalkKey10
import Derived.Test.YtfclhehpbniapaaDoorRefOct
import Derived.Test.YtfclhehpbniapaaDoorWalkSum
import Derived.Test.YtfclhehpbniapaaDoorMathMoved11
namespace Go.Proofs.YtfclhehpbniapaaDoor
open Go.RowKit
set_option linter.unusedVariables false

/-- The first 512 octets, noughts behind. -/
def pageL (k : Nat) (zs : List Nat) : List Nat := (List.range k).map fun j => zs[j]?.getD 0
theorem pageL_length (k : Nat) (zs : List Nat) : (pageL k zs).length = k := by simp [pageL]
theorem pageL_succ (k : Nat) (zs : List Nat) : pageL (k + 1) zs = pageL k zs ++ [zs[k]?.getD 0] := by simp [pageL, List.range_succ]
theorem pageL_small (k : Nat) {zs : List Nat} (h : ∀ z ∈ zs, z < 256) : ∀ z ∈ pageL k zs, z < 256 := by
  intro z hz
  simp only [pageL, List.mem_map] at hz
  obtain ⟨j, _, rfl⟩ := hz
  exact getD_small zs h j
def whole11 (k : Ky) (g : Int) (zs : List Nat) : List Nat := octZ (numK k) 4 ++ octZ g 8 ++ pageL 512 zs
/-- A page's sum. -/
def sum11 (k : Ky) (g : Int) (zs : List Nat) : Nat := crcSum (whole11 k g zs)
theorem whole11_small {k : Ky} {g : Int} {zs : List Nat} (h : ∀ z ∈ zs, z < 256) : ∀ z ∈ whole11 k g zs, z < 256 := by
  intro z hz
  simp only [whole11, List.mem_append] at hz
  rcases hz with (hz | hz) | hz
  · exact octZ_small _ _ z hz
  · exact octZ_small _ _ z hz
  · exact pageL_small _ h z hz

theorem pageL_get {k : Nat} {zs : List Nat} {j : Nat} : (pageL k zs)[j]? = if j < k then some (zs[j]?.getD 0) else none := by
  unfold pageL
  rw [List.getElem?_map]
  split
  · rename_i h
    rw [List.getElem?_range h]
    rfl
  · rename_i h
    rw [List.getElem?_eq_none (by simpa using h)]
    rfl
/-- An octet behind the page is no part of it. -/
theorem pageL_far {k : Nat} {zs : List Nat} {i y : Nat} (h : k ≤ i) : pageL k (zs.set i y) = pageL k zs := by
  apply List.ext_getElem?
  intro j
  rw [pageL_get, pageL_get]
  split
  · rw [List.getElem?_set_ne (by omega)]
  · rfl
theorem pageL_near {k : Nat} {zs : List Nat} {i y : Nat} (h : i < k) (hi : i < zs.length) : pageL k (zs.set i y) = (pageL k zs).set i y := by
  apply List.ext_getElem?
  intro j
  by_cases e : i = j
  · subst e
    rw [pageL_get, if_pos h, List.getElem?_set_self hi, List.getElem?_set_self (by rw [pageL_length]; exact h)]
    rfl
  · rw [pageL_get, List.getElem?_set_ne e, List.getElem?_set_ne e, pageL_get]
/-- An octet of it turned turns the sum. -/
theorem sum11_turned {k : Ky} {g : Int} {zs : List Nat} (hz : ∀ z ∈ zs, z < 256) {i y : Nat} (hi : i < zs.length) (hy : y < 256) (hne : y ≠ zs[i]) : (sum11 k g (zs.set i y) = sum11 k g zs) ↔ 512 ≤ i := by
  constructor
  · intro h
    rcases Nat.lt_or_ge i 512 with h5 | h5
    · exfalso
      unfold sum11 whole11 at h
      rw [pageL_near h5 hi] at h
      have hp := pageL_length 512 zs
      have e1 : (octZ (numK k) 4 ++ octZ g 8 ++ pageL 512 zs).set (12 + i) y = octZ (numK k) 4 ++ octZ g 8 ++ (pageL 512 zs).set i y := by
        rw [List.set_append_right _ _ (by simp [octZ_length])]
        simp [octZ_length]
      rw [← e1] at h
      have hlen : (octZ (numK k) 4 ++ octZ g 8 ++ pageL 512 zs).length = 524 := by simp [octZ_length, hp]
      have h2 := crcSum_set (l := octZ (numK k) 4 ++ octZ g 8 ++ pageL 512 zs) (by rw [hlen]; omega) (whole11_small (k := k) (g := g) hz) hy h
      refine hne (h2.trans ?_)
      have e3 : (octZ (numK k) 4 ++ octZ g 8 ++ pageL 512 zs)[12 + i]? = some zs[i] := by
        rw [List.getElem?_append_right (by simp [octZ_length])]
        rw [show 12 + i - (octZ (numK k) 4 ++ octZ g 8).length = i by simp [octZ_length], pageL_get, if_pos h5, List.getElem?_eq_getElem hi]
        rfl
      exact Option.some.inj ((List.getElem?_eq_getElem _).symm.trans e3)
    · exact h5
  · intro h
    unfold sum11 whole11
    rw [pageL_far h]
theorem numK_inj {a b : Ky} (ha : isR a = true) (hb : isR b = true) (h : numK a = numK b) : a = b := by
  have h1 := isR_iff.1 ha
  have h2 := isR_iff.1 hb
  unfold numK at h
  rw [if_pos ha, if_pos hb] at h
  obtain ⟨a1, a2⟩ := a
  obtain ⟨b1, b2⟩ := b
  simp only at *
  have e1 : a1 = b1 := by omega
  have e2 : a2 = b2 := by omega
  rw [e1, e2]
theorem numK_bd (a : Ky) : 0 ≤ numK a ∧ numK a < 4294967296 := by
  unfold numK
  split
  · rename_i h
    have := isR_iff.1 h
    omega
  · decide
theorem octZ_four {n : Int} (h0 : 0 ≤ n) : octZ n 4 = octN n.toNat := by
  obtain ⟨m, rfl⟩ : ∃ m : Nat, n = (m : Int) := ⟨n.toNat, by omega⟩
  simp only [octZ, octL, octet, octN, List.range_succ, List.range_zero, List.nil_append, List.map_cons, List.map_nil, List.cons_append, Int.toNat_natCast]
  simp
  omega
/-- A page under another key has another sum. -/
theorem sum11_moved {a b : Ky} {g : Int} {zs : List Nat} (hz : ∀ z ∈ zs, z < 256) (ha : isR a = true) (hb : isR b = true) (h : sum11 a g zs = sum11 b g zs) : a = b := by
  unfold sum11 whole11 at h
  rw [List.append_assoc, List.append_assoc, octZ_four (numK_bd a).1, octZ_four (numK_bd b).1] at h
  have hb1 := numK_bd a
  have hb2 := numK_bd b
  have h1 := crcSum_four (by omega) (by omega) (fun z hz2 => (List.mem_append.1 hz2).elim (octZ_small _ _ z) (pageL_small _ hz z)) h
  exact numK_inj ha hb (by omega)

set_option maxRecDepth 20000 in
set_option maxHeartbeats 2000000 in
theorem refSum11_any (w : World) (h p g : Int) (v : Value) (zs : List Nat) (hv : Octs w v zs) :
    Calls Tryd.prog 7 #[.agg #[.int .i64 h, .int .i64 p], .int .i64 g, v] w fun e w' => e = .returned (.int .u32 (sum11 (h, p) g zs : Nat)) ∧ Below w.heap.size w w' := by
  obtain ⟨i0, hi, hz0, hz1, hz2⟩ := info_parts Tryd.infoU8'
  obtain ⟨a, ca, rfl⟩ := hv.shape
  have hl := hv.len
  obtain ⟨L, hL⟩ : ∃ L, L = zs.length := ⟨_, rfl⟩
  rw [← hL] at hv hl ⊢
  have HN : Hid (L = zs.length) := hL
  have HZ : Hid (∀ z ∈ zs, z < 256) := hv.small
  have HV : Hid (Octs w (.slice a L ca) zs) := hv
  clear hv hL
  go_enter Tryd.func7, Tryd.ntmps7
  go_wp2_with fail
  obtain ⟨W0, hW⟩ : ∃ W0, W0 = w.alloc (.cells #[.int .i64 h, .int .i64 p] 23) := ⟨_, rfl⟩
  have d0 : W0.cell? ⟨w.heap.size, 0, none⟩ = some (.int .i64 h) := by rw [hW]; simp
  have d1 : W0.cell? ⟨w.heap.size, 0 + 1, none⟩ = some (.int .i64 p) := by rw [hW]; simp
  have hk := load_kv d0 d1
  have HB0 : Hid (Below w.heap.size w W0) := by rw [hW]; exact (Below.refl _ _).alloc (Nat.le_refl _) _
  rw [← hW]
  have HVW : Hid (∀ W, Below w.heap.size w W → Octs W (.slice a L ca) zs) := fun W hB => HV.out.kept hB
  clear hW d0 d1 HV
  go_wp2_with fail
  refine (refNumber_any h p _).mono ?_
  rintro e w1 ⟨rfl, hB1⟩
  have HB1 : Hid (Below w.heap.size w w1) := HB0.out.trans (hB1.mono HB0.out.size)
  clear hB1 HB0 hk
  obtain ⟨N, hNN⟩ : ∃ N, N = numK (h, p) := ⟨_, rfl⟩
  rw [← hNN]
  have HR : Hid (sum11 (h, p) g zs = crcSum (octZ N 4 ++ octZ g 8 ++ pageL 512 zs)) := by rw [hNN]; rfl
  clear hNN
  go_wp2_with fail
  refine (refLay_any N 4 _).mono ?_
  rintro e w2 ⟨v2, rfl, ho2, hB2⟩
  rw [octZ_cells, show cl 4 8 = 4 by decide] at ho2
  have HB2 : Hid (Below w.heap.size w w2) := HB1.out.trans (hB2.mono HB1.out.size)
  have hs2 := hB2.size
  obtain ⟨B, hBB⟩ : ∃ B, B = w1.heap.size := ⟨_, rfl⟩
  have HBw : Hid (w.heap.size ≤ B) := by rw [hBB]; exact HB1.out.size
  rw [← hBB] at ho2 hs2
  clear hB2 HB1 hBB
  have HO2 : Hid (w2.ownsRow B 5 1 v2 4 (u8s (octZ N 4))) := ho2
  clear ho2
  go_wp2_with fail
  refine (refLay_octs5 g 8 _).mono ?_
  rintro e w3 ⟨v3, rfl, ho3, -, hB3⟩
  rw [show cl 8 8 = 8 by decide] at ho3
  have HO3 : Hid (Octs w3 v3 (octZ g 8)) := ho3
  have HW3 : Hid (w3.ownsRow B 5 1 v2 4 (u8s (octZ N 4))) := own_kept HO2.out hB3 (Nat.le_refl _)
  have HB3 : Hid (Below w.heap.size w w3) := HB2.out.trans (hB3.mono HB2.out.size)
  have HS3 : Hid (B ≤ w3.heap.size) := by have := hB3.size; unfold Hid; omega
  have HL3 : Hid ((octZ g 8).length = 8) := octZ_length _ _
  clear ho3 hB3 hs2 HO2 HB2
  go_wp2_with (at_builtin; refine wpList_append_octs _ rfl _ _ 24 rfl B 5 i0 Tryd.underlying24 hi hz0 hz1 hz2 _ 4 (octZ N 4) rfl HW3.out _ (octZ g 8) rfl HO3.out ?c1 ?c2 ?_)
  case c1 => rw [HL3.out]; decide
  case c2 => exact HS3.out
  intro v4 w4 hown hg
  rw [HL3.out] at hown
  have HB4 : Hid (Below w.heap.size w w4) := HB3.out.trans ((below_grown HW3.out hg HS3.out).mono HBw.out)
  have HS4 : Hid (B ≤ w4.heap.size) := Nat.le_trans HS3.out (below_grown HW3.out hg HS3.out).size
  have HW4 : Hid (w4.ownsRow B 5 1 v4 12 (u8s (octZ N 4 ++ octZ g 8))) := hown
  have HP : Hid (∀ z ∈ octZ N 4 ++ octZ g 8, z < 256) := fun z hz => (List.mem_append.1 hz).elim (octZ_small _ _ z) (octZ_small _ _ z)
  generalize octZ N 4 ++ octZ g 8 = ps at *
  clear hown hg HW3 HB3 HS3 HO3 HL3
  go_wp2_with fail
  go_loopw [7, 8] (fun v i wr => ∃ k : Nat, k ≤ 512 ∧ i = .int .i64 (k : Nat) ∧ Hid (wr.ownsRow B 5 1 v (12 + k) (u8s (ps ++ pageL k zs))) ∧ Hid (Below w.heap.size w wr) ∧ Hid (B ≤ wr.heap.size)) (fun _ i _ => 512 - (intOf i).toNat)
  case atStart => exact ⟨0, Nat.zero_le _, rfl, by rw [show pageL 0 zs = [] from rfl, List.append_nil]; exact HW4.out, HB4.out, HS4.out⟩
  case round =>
    obtain ⟨k, hk, rfl, HO, HB, HS⟩ := hrel
    by_cases hlt : k < 512
    · have HQ : Hid (∀ z : Nat, zs[k]?.getD 0 = z → ∀ (v' : Value) (w' : World), w'.ownsRow B 5 1 v' (12 + k + 1) (u8s (ps ++ pageL k zs) ++ u8s [z]) → w'.ownsRow B 5 1 v' (12 + (k + 1)) (u8s (ps ++ pageL (k + 1) zs))) := fun z hz v' w' ho => by
        rw [pageL_succ, hz, ← List.append_assoc, u8s_append (ps ++ pageL k zs)]
        exact ho
      generalize ps ++ pageL k zs = qs at *
      by_cases hL : k < L
      · obtain ⟨b, off, rfl, hb, hc⟩ := (HVW.out _ HB.out).addr (by omega)
        have hcell := hc k (by rw [← HN.out]; exact hL)
        have hz := getD_small zs HZ.out k
        obtain ⟨z, hzz⟩ : ∃ z, zs[k]?.getD 0 = z := ⟨_, rfl⟩
        have HQ2 := HQ.out z hzz
        have HQQ : Hid (∀ (v' : Value) (w' : World), w'.ownsRow B 5 1 v' (12 + k + 1) (u8s qs ++ u8s [z]) → w'.ownsRow B 5 1 v' (12 + (k + 1)) (u8s (ps ++ pageL (k + 1) zs))) := HQ2
        rw [hzz] at hcell hz
        clear hc HQ HQ2 hzz
        go_wp2_with (at_builtin; refine wpList_append_octs _ rfl _ _ 24 rfl B 5 i0 Tryd.underlying24 hi hz0 hz1 hz2 _ (12 + k) qs rfl (HO.out.alloc _) _ [z] rfl (octs_new wr [z] 5 (by simpa using hz) (by simp [maxLen])) ?c1 ?c2 ?_)
        case c1 => simp only [List.length_cons, List.length_nil]; omega
        case c2 => exact Nat.le_trans HS.out (by simp)
        intro v5 w5 hown hg
        have R1 : Hid (w5.ownsRow B 5 1 v5 (12 + (k + 1)) (u8s (ps ++ pageL (k + 1) zs))) := HQQ.out _ _ (by rw [← u8s_append]; exact hown)
        have hB5 := below_grown (HO.out.alloc _) hg (Nat.le_trans HS.out (by simp))
        have R2 : Hid (Below w.heap.size w w5) := (HB.out.alloc HB.out.size _).trans (hB5.mono HBw.out)
        have R3 : Hid (B ≤ w5.heap.size) := Nat.le_trans (Nat.le_trans HS.out (by simp)) hB5.size
        clear hown hg hB5 HO HB HS
        go_wp2
        go_roundw
        case rel => exact ⟨k + 1, by omega, by go_num, R1.out, R2.out, R3.out⟩
        case measure => simp [intOf]; omega
      · have hzz : zs[k]?.getD 0 = 0 := by rw [List.getElem?_eq_none (by rw [← HN.out]; omega)]; rfl
        have HQ2 := HQ.out 0 hzz
        have HQQ : Hid (∀ (v' : Value) (w' : World), w'.ownsRow B 5 1 v' (12 + k + 1) (u8s qs ++ u8s [0]) → w'.ownsRow B 5 1 v' (12 + (k + 1)) (u8s (ps ++ pageL (k + 1) zs))) := HQ2
        have hz : (0 : Nat) < 256 := by decide
        clear HQ HQ2 hzz
        go_wp2_with (at_builtin; refine wpList_append_octs _ rfl _ _ 24 rfl B 5 i0 Tryd.underlying24 hi hz0 hz1 hz2 _ (12 + k) qs rfl (HO.out.alloc _) _ [0] rfl (octs_new wr [0] 5 (by simp) (by simp [maxLen])) ?c1 ?c2 ?_)
        case c1 => simp only [List.length_cons, List.length_nil]; omega
        case c2 => exact Nat.le_trans HS.out (by simp)
        intro v5 w5 hown hg
        have R1 : Hid (w5.ownsRow B 5 1 v5 (12 + (k + 1)) (u8s (ps ++ pageL (k + 1) zs))) := HQQ.out _ _ (by rw [← u8s_append]; exact hown)
        have hB5 := below_grown (HO.out.alloc _) hg (Nat.le_trans HS.out (by simp))
        have R2 : Hid (Below w.heap.size w w5) := (HB.out.alloc HB.out.size _).trans (hB5.mono HBw.out)
        have R3 : Hid (B ≤ w5.heap.size) := Nat.le_trans (Nat.le_trans HS.out (by simp)) hB5.size
        clear hown hg hB5 HO HB HS
        go_wp2
        go_roundw
        case rel => exact ⟨k + 1, by omega, by go_num, R1.out, R2.out, R3.out⟩
        case measure => simp [intOf]; omega
    · obtain rfl : k = 512 := by omega
      have HV5 : Hid (Octs wr u7 (ps ++ pageL 512 zs)) := Octs.owned HO.out fun z hz => (List.mem_append.1 hz).elim (HP.out z) (pageL_small _ HZ.out z)
      clear HO HS
      go_wp2_with fail
      refine (refSum_octs _ _ _ HV5.out).mono ?_
      rintro e w6 ⟨rfl, rfl⟩
      go_wp2
      go_ret
      exact ⟨ret_int (by rw [HR.out]), HB.out⟩
end Go.Proofs.YtfclhehpbniapaaDoor
