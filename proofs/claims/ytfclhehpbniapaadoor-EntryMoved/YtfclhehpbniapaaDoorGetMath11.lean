/- A list of mapped pages out of octets, and there and back. No Go in sight but the words for octets. -/
import Derived.Test.YtfclhehpbniapaaDoorRefPut11
import Derived.Test.YtfclhehpbniapaaDoorSuper5
namespace Go.Proofs.YtfclhehpbniapaaDoor
open Go.RowKit
set_option linter.unusedVariables false

theorem getO_bd {zs : List Nat} (h : ∀ z ∈ zs, z < 256) {k : Nat} (hl : zs.length = k) (hk : k ≤ 6) : 0 ≤ getO zs ∧ getO zs < 2 ^ (8 * k) := by
  have h1 := getN_bd (zs.map Int.ofNat) (fun b hb => by
    rw [List.mem_map] at hb
    obtain ⟨y, hy, rfl⟩ := hb
    have := h y hy
    simp only [Int.ofNat_eq_natCast]; omega)
  rw [List.length_map, hl] at h1
  have h2 : (2 : Int) ^ (8 * k) ≤ 281474976710656 := by
    have : k = 0 ∨ k = 1 ∨ k = 2 ∨ k = 3 ∨ k = 4 ∨ k = 5 ∨ k = 6 := by omega
    rcases this with e | e | e | e | e | e | e <;> rw [e] <;> decide
  unfold getO getI
  rw [List.take_of_length_le (by rw [List.length_map]; omega)]
  unfold wrap64
  omega
/-- A page out of its octets. -/
def recG (x : List Nat) : Md := ⟨getO (x.take 4) / 4096, getO (x.take 4) % 4096, getO ((x.drop 4).take 4), getO ((x.drop 8).take 6), (getO ((x.drop 14).take 4)).toNat⟩
def sliceG (zs : List Nat) (i : Nat) : List Nat := (zs.drop (4 + 18 * i)).take 18
def listG (zs : List Nat) (k : Nat) : List Md := (List.range k).map fun i => recG (sliceG zs i)
theorem listG_length (zs : List Nat) (k : Nat) : (listG zs k).length = k := by simp [listG]
theorem listG_succ (zs : List Nat) (k : Nat) : listG zs (k + 1) = listG zs k ++ [recG (sliceG zs k)] := by simp [listG, List.range_succ]
def cntG (zs : List Nat) : Nat := (getO (zs.take 4)).toNat
def fitsG (zs : List Nat) : Bool := decide (4 ≤ zs.length ∧ cntG zs ≤ zs.length / 18 ∧ 4 + 18 * cntG zs ≤ zs.length)
/-- The list at the beginning of octets; none: there is none. -/
def getM (n : Int) (zs : List Nat) : Option (List Md) := if fitsG zs = true ∧ rightM n (listG zs (cntG zs)) = true then some (listG zs (cntG zs)) else none
theorem getM_some {n : Int} {zs : List Nat} {l : List Md} (h : getM n zs = some l) : fitsG zs = true ∧ l = listG zs (cntG zs) ∧ rightM n l = true := by
  unfold getM at h
  split at h
  · rename_i hh
    injection h with e
    subst e
    exact ⟨hh.1, rfl, hh.2⟩
  · cases h
theorem getO_octZ6 (n : Int) (h1 : 0 ≤ n) (h2 : n ≤ 281474976710655) : getO (octZ n 6) = n := by
  rw [getO_octZ n 6 (by decide), show (2 : Int) ^ (8 * 6) = 281474976710656 by rfl]
  unfold wrap64; omega
theorem recG_recM {m : Md} (hR : isR m.k = true) (hs : 0 ≤ m.s ∧ m.s ≤ 4294967295) (hg : 0 ≤ m.g ∧ m.g ≤ 281474976710655) (hu : m.u < 4294967296) : recG (recM m) = m := by
  obtain ⟨h, p, s, g, u⟩ := m
  have hr := isR_iff.1 hR
  have hR' : isR (h, p) = true := hR
  have e0 : numK (h, p) = 4096 * h + p := by unfold numK; rw [if_pos hR']
  simp only [Md.k] at hr hR
  simp only at hs hg hu
  have q0 : ((recM ⟨h, p, s, g, u⟩).drop 0).take 4 = octZ (numK (h, p)) 4 := by
    rw [recM, List.append_assoc, List.append_assoc]
    exact take_drop_mid [] _ _ 0 4 rfl (octZ_length _ _)
  have q1 : ((recM ⟨h, p, s, g, u⟩).drop 4).take 4 = octZ s 4 := by
    rw [recM, List.append_assoc, List.append_assoc]
    exact take_drop_mid _ _ _ 4 4 (octZ_length _ _) (octZ_length _ _)
  have q2 : ((recM ⟨h, p, s, g, u⟩).drop 8).take 6 = octZ g 6 := by
    rw [recM, List.append_assoc (octZ _ 4 ++ octZ s 4)]
    exact take_drop_mid _ _ _ 8 6 (by simp [octZ_length]) (octZ_length _ _)
  have q3 : ((recM ⟨h, p, s, g, u⟩).drop 14).take 4 = octZ (u : Nat) 4 := by
    have := take_drop_mid (octZ (numK (h, p)) 4 ++ octZ s 4 ++ octZ g 6) (octZ (u : Nat) 4) [] 14 4 (by simp [octZ_length]) (octZ_length _ _)
    rwa [List.append_nil] at this
  rw [List.drop_zero] at q0
  unfold recG
  rw [q0, q1, q2, q3, getO_octZ4 _ (by rw [e0]; omega) (by rw [e0]; omega), getO_octZ4 s hs.1 hs.2, getO_octZ6 g hg.1 hg.2, getO_octZ4 (u : Nat) (by omega) (by omega), e0]
  simp only [Md.mk.injEq, and_true, Int.toNat_natCast]
  omega
theorem recs_drop (b : List Nat) : ∀ (l : List Md) (i : Nat), i ≤ l.length → (l.flatMap recM ++ b).drop (18 * i) = (l.drop i).flatMap recM ++ b
  | l, 0, _ => by simp
  | [], i + 1, h => by simp at h
  | m :: r, i + 1, h => by
    rw [List.flatMap_cons, List.append_assoc, List.drop_append, List.drop_eq_nil_of_le (by rw [recM_length]; omega), List.nil_append, recM_length, show 18 * (i + 1) - 18 = 18 * i by omega, List.drop_succ_cons]
    exact recs_drop b r i (by simpa using h)
theorem slice_put {l : List Md} {b : List Nat} {i : Nat} {m : Md} (h : l[i]? = some m) : sliceG (putM l ++ b) i = recM m := by
  have hi := (List.getElem?_eq_some_iff.1 h).1
  unfold sliceG putM
  rw [List.append_assoc, List.drop_append, List.drop_eq_nil_of_le (by rw [octZ_length]; omega), List.nil_append, octZ_length, show 4 + 18 * i - 4 = 18 * i by omega, recs_drop b l i (by omega)]
  have e : l.drop i = m :: l.drop (i + 1) := by
    rw [List.drop_eq_getElem_cons hi]
    congr 1
    exact (List.getElem?_eq_some_iff.1 h).2
  rw [e, List.flatMap_cons, List.append_assoc, List.take_append_of_le_length (by rw [recM_length]; omega), List.take_of_length_le (by rw [recM_length]; omega)]
theorem cnt_put {l : List Md} {b : List Nat} (hl : l.length ≤ 4294967295) : cntG (putM l ++ b) = l.length := by
  unfold cntG putM
  rw [List.append_assoc, List.take_append_of_le_length (by rw [octZ_length]; omega), List.take_of_length_le (by rw [octZ_length]; omega), getO_octZ4 _ (by omega) (by omega), Int.toNat_natCast]
theorem rightM_ok {n : Int} {l : List Md} {i : Nat} {m : Md} (h : rightM n l = true) (hi : l[i]? = some m) : okM n m = true := by
  unfold rightM at h
  rw [List.all_eq_true] at h
  have h1 := h i (List.mem_range.2 (List.getElem?_eq_some_iff.1 hi).1)
  rw [stepM_at hi] at h1
  simp only [Bool.and_eq_true] at h1
  exact h1.1.1
/-- There and back. -/
theorem get_put {n : Int} {l : List Md} {b : List Nat} (hr : rightM n l = true) (hn : n ≤ 4294967296) (hl : l.length ≤ 1000) (hu : ∀ m ∈ l, m.u < 4294967296) : getM n (putM l ++ b) = some l := by
  have hc := cnt_put (l := l) (b := b) (by omega)
  have hf : fitsG (putM l ++ b) = true := by
    unfold fitsG
    rw [hc]
    have := putM_length l
    apply decide_eq_true
    rw [List.length_append, this]
    omega
  have hL : listG (putM l ++ b) l.length = l := by
    apply List.ext_getElem?
    intro i
    unfold listG
    rw [List.getElem?_map]
    rcases Nat.lt_or_ge i l.length with hi | hi
    · rw [List.getElem?_range hi, Option.map_some]
      have he : l[i]? = some l[i] := List.getElem?_eq_getElem hi
      have ho := rightM_ok hr he
      unfold okM at ho
      simp only [Bool.and_eq_true, decide_eq_true_eq] at ho
      rw [slice_put he, recG_recM ho.1 (by omega) (by omega) (hu _ (List.getElem_mem _)), he]
    · rw [List.getElem?_eq_none (by simpa using hi), List.getElem?_eq_none hi]
      rfl
  unfold getM
  rw [hc, hL, if_pos ⟨hf, hr⟩]
end Go.Proofs.YtfclhehpbniapaaDoor
