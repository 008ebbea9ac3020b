/- Transactions of which an octet was turned, or a sector is missing, or of another number, in plain numbers: nothing is joined. -/
import Derived.Test.YtndeknkfljnjoaaDoorCut6
namespace Go.Proofs.YtndeknkfljnjoaaDoor
open Go.RowKit
set_option linter.unusedVariables false

theorem sec_at (b : List Nat) (i j : Nat) : (secAt6 b i)[j]? = if j < 128 then b[128 * i + j]? else none := by
  unfold secAt6
  rw [List.getElem?_take]
  split
  · rw [List.getElem?_drop]
  · rfl
theorem sec_eq {b c : List Nat} {i k : Nat} (h : ∀ j, j < 128 → b[128 * i + j]? = c[128 * k + j]?) : secAt6 b i = secAt6 c k := by
  apply List.ext_getElem?
  intro j
  rw [sec_at, sec_at]
  split
  · exact h j (by assumption)
  · rfl
theorem sec_set_other (b : List Nat) (k d i : Nat) (h : k / 128 ≠ i) : secAt6 (b.set k d) i = secAt6 b i := sec_eq fun j hj => by
  rw [List.getElem?_set_ne (by omega)]
theorem sec_set_self (b : List Nat) (k d : Nat) : secAt6 (b.set k d) (k / 128) = (secAt6 b (k / 128)).set (k % 128) d := by
  apply List.ext_getElem?
  intro j
  by_cases hj : k % 128 = j
  · subst hj
    rw [sec_at, if_pos (by omega), List.getElem?_set, List.getElem?_set, if_pos (by omega), if_pos rfl]
    unfold secAt6
    rw [List.length_take, List.length_drop]
    by_cases hk : k < b.length
    · rw [if_pos (by omega), if_pos (by omega)]
    · rw [if_neg (by omega), if_neg (by omega)]
  · rw [sec_at, List.getElem?_set_ne hj, sec_at]
    split
    · rw [List.getElem?_set_ne (by omega)]
    · rfl
/-- The part, or the foot, in the j-th place. -/
def partAt (e n : Int) (zs : List Nat) (j : Nat) : Part := if j < partsN zs.length then partOf e n zs j else footOf e n zs
theorem cutS_sec (e n : Int) (zs : List Nat) (j : Nat) (hj : j ≤ partsN zs.length) : secAt6 (cutS e n zs) j = sect6 (partAt e n zs j) := by
  unfold partAt
  split
  · rename_i h
    have := cutS_at e n zs j [] h
    rwa [List.append_nil] at this
  · have e1 : j = partsN zs.length := by omega
    subst e1
    have := cutS_foot e n zs []
    rwa [List.append_nil] at this
theorem partAt_ok {e n : Int} (h : okId e n = true) (zs : List Nat) (hl : zs.length ≤ 65000) (j : Nat) : okP (partAt e n zs j) = true := by
  unfold partAt
  split
  · exact partOf_ok h zs j (by have : partsN zs.length ≤ 65535 := by unfold partsN; omega
                               omega)
  · exact footOf_ok h zs hl
theorem partAt_small {zs : List Nat} (h : ∀ z ∈ zs, z < 256) (e n : Int) (j : Nat) : ∀ z ∈ (partAt e n zs j).data, z < 256 := by
  unfold partAt
  split
  · exact partOf_small h _ _ _
  · exact footOf_small _ _ _
theorem partAt_index (e n : Int) (zs : List Nat) (j : Nat) (hj : j ≤ partsN zs.length) : (partAt e n zs j).index = (j : Nat) := by
  unfold partAt
  split
  · rfl
  · show ((partsN zs.length : Nat) : Int) = _
    omega
theorem join_turned {e n : Int} (hid : okId e n = true) (zs : List Nat) (hz : ∀ z ∈ zs, z < 256) (hl : zs.length ≤ 65000) (k d : Nat) (hk : k < (cutS e n zs).length) (hd : d < 256) (hn : d ≠ (cutS e n zs)[k]?.getD 0) : joinS ((cutS e n zs).set k d) e n = none := by
  rw [cutS_length] at hk
  have hs : k / 128 ≤ partsN zs.length := by omega
  refine join_stops hid zs hl _ (k / 128) hs (fun j hj => ?_) (by rw [List.length_set, cutS_length]; omega) (.inr ?_)
  · rw [sec_set_other _ _ _ _ (by omega), cutS_sec e n zs j (by omega)]
    unfold partAt
    rw [if_pos (by omega)]
  · rw [sec_set_self, cutS_sec e n zs _ hs, turned6 _ (partAt_ok hid zs hl _) (partAt_small hz _ _ _) (k % 128) d (by omega) hd ?_]
    · rfl
    · rw [← cutS_sec e n zs _ hs, sec_at, if_pos (by omega), show 128 * (k / 128) + k % 128 = k by omega]
      exact hn
theorem join_missing {e n : Int} (hid : okId e n = true) (zs : List Nat) (hl : zs.length ≤ 65000) (s : Nat) (hs : s ≤ partsN zs.length) : joinS ((cutS e n zs).take (128 * s) ++ (cutS e n zs).drop (128 * s + 128)) e n = none := by
  have hL := cutS_length e n zs
  have hlen : ((cutS e n zs).take (128 * s) ++ (cutS e n zs).drop (128 * s + 128)).length = 128 * partsN zs.length := by
    rw [List.length_append, List.length_take, List.length_drop, hL]; omega
  have ht : ((cutS e n zs).take (128 * s)).length = 128 * s := by rw [List.length_take, hL]; omega
  refine join_stops hid zs hl _ s hs (fun j hj => ?_) (by rw [hlen]; omega) ?_
  · rw [show sect6 (partOf e n zs j) = secAt6 (cutS e n zs) j by rw [cutS_sec e n zs j (by omega)]; unfold partAt; rw [if_pos (by omega)]]
    refine sec_eq fun i hi => ?_
    rw [List.getElem?_append_left (by rw [ht]; omega), List.getElem?_take_of_lt (by omega)]
  · by_cases h : s < partsN zs.length
    · right
      have e1 : secAt6 ((cutS e n zs).take (128 * s) ++ (cutS e n zs).drop (128 * s + 128)) s = secAt6 (cutS e n zs) (s + 1) := sec_eq fun i hi => by
        rw [List.getElem?_append_right (by rw [ht]; omega), ht, List.getElem?_drop]
        congr 1
        omega
      rw [e1, cutS_sec e n zs (s + 1) (by omega), getP_sect _ (partAt_ok hid zs hl _)]
      have := partAt_index e n zs (s + 1) (by omega)
      simp only [fitP]
      rw [this]
      simp
      omega
    · left
      rw [hlen]; omega
theorem join_other {e n : Int} (hid : okId e n = true) (zs : List Nat) (h1 : 1 ≤ zs.length) (hl : zs.length ≤ 65000) (R : List Nat) : joinS (cutS e n zs ++ R) e (n + 1) = none := by
  have hp : 0 < partsN zs.length := by unfold partsN; omega
  apply join_first
  have e1 : secAt6 (cutS e n zs ++ R) 0 = sect6 (partOf e n zs 0) := cutS_at e n zs 0 R hp
  rw [e1, getP_sect _ (partOf_ok hid zs 0 (by decide))]
  simp [fitP, partOf]
  omega
end Go.Proofs.YtndeknkfljnjoaaDoor
