/- A transaction cut into sectors and joined again, in plain numbers. -/
import Derived.Test.YthhdkadjlddmkaaDoorPart6
namespace Go.Proofs.YthhdkadjlddmkaaDoor
open Go.RowKit
set_option linter.unusedVariables false

/-- How many parts so many octets have. -/
def partsN (n : Nat) : Nat := (n + 111) / 112
/-- How many sectors. -/
def sectorsN (n : Int) : Int := if 1 ≤ n ∧ n ≤ 65000 then (n + 111) / 112 + 1 else 0
theorem sectorsN_nat (n : Nat) (h1 : 1 ≤ n) (h2 : n ≤ 65000) : sectorsN n = ((partsN n + 1 : Nat) : Int) := by
  unfold sectorsN partsN; rw [if_pos (by omega)]; omega
theorem sectorsN_pos {n : Nat} (h : 0 < sectorsN n) : 1 ≤ n ∧ n ≤ 65000 := by
  unfold sectorsN at h; split at h <;> omega
def partOf (e n : Int) (zs : List Nat) (j : Nat) : Part := ⟨false, e, n, (j : Nat), (zs.drop (112 * j)).take 112⟩
def footOf (e n : Int) (zs : List Nat) : Part := ⟨true, e, n, (partsN zs.length : Nat), octZ (crcSum zs : Nat) 4⟩
/-- The first j parts' sectors. -/
def cutN (e n : Int) (zs : List Nat) : Nat → List Nat
  | 0 => []
  | j + 1 => cutN e n zs j ++ sect6 (partOf e n zs j)
def cutS (e n : Int) (zs : List Nat) : List Nat := cutN e n zs (partsN zs.length) ++ sect6 (footOf e n zs)
/-- May a transaction of that epoch and number be? -/
def okId (e n : Int) : Bool := okP ⟨false, e, n, 0, []⟩
theorem okId_right {e n : Int} : okId e n = true ↔ (1 ≤ e ∧ e ≤ 2147483648) ∧ 0 ≤ n ∧ n ≤ 2147483648 := by
  unfold okId
  rw [okP_right]
  exact ⟨fun h => ⟨h.epoch, h.number⟩, fun h => ⟨h.1, h.2, by simp, by simp⟩⟩
theorem partOf_data (e n : Int) (zs : List Nat) (j : Nat) : (partOf e n zs j).data.length ≤ 112 := by
  show ((zs.drop (112 * j)).take 112).length ≤ 112
  rw [List.length_take]; omega
theorem footOf_data (e n : Int) (zs : List Nat) : (footOf e n zs).data.length ≤ 112 := by
  show (octZ _ 4).length ≤ 112
  rw [octZ_length]; decide
theorem partOf_ok {e n : Int} (h : okId e n = true) (zs : List Nat) (j : Nat) (hj : j ≤ 65535) : okP (partOf e n zs j) = true := by
  have := okId_right.1 h
  exact okP_right.2 ⟨this.1, this.2, ⟨by show (0 : Int) ≤ (j : Nat); omega, by show ((j : Nat) : Int) ≤ 65535; omega⟩, partOf_data _ _ _ _⟩
theorem footOf_ok {e n : Int} (h : okId e n = true) (zs : List Nat) (hl : zs.length ≤ 65000) : okP (footOf e n zs) = true := by
  have := okId_right.1 h
  have h2 : partsN zs.length ≤ 65535 := by unfold partsN; omega
  exact okP_right.2 ⟨this.1, this.2, ⟨by show (0 : Int) ≤ (partsN zs.length : Nat); omega, by show ((partsN zs.length : Nat) : Int) ≤ 65535; omega⟩, footOf_data _ _ _⟩
theorem partOf_small {zs : List Nat} (h : ∀ z ∈ zs, z < 256) (e n : Int) (j : Nat) : ∀ z ∈ (partOf e n zs j).data, z < 256 := small_part h _ _
theorem footOf_small (e n : Int) (zs : List Nat) : ∀ z ∈ (footOf e n zs).data, z < 256 := octZ_small _ _
theorem cutN_length (e n : Int) (zs : List Nat) (j : Nat) : (cutN e n zs j).length = 128 * j := by
  induction j with
  | zero => rfl
  | succ j ih => rw [cutN, List.length_append, ih, sect6_length _ (partOf_data _ _ _ _)]; omega
theorem cutS_length (e n : Int) (zs : List Nat) : (cutS e n zs).length = 128 * (partsN zs.length + 1) := by
  rw [cutS, List.length_append, cutN_length, sect6_length _ (footOf_data _ _ _)]; omega
theorem cutN_small {zs : List Nat} (h : ∀ z ∈ zs, z < 256) (e n : Int) (j : Nat) : ∀ z ∈ cutN e n zs j, z < 256 := by
  induction j with
  | zero => intro z hz; cases hz
  | succ j ih => exact app_small ih (sect6_small _ (partOf_small h _ _ _))
theorem cutS_small {zs : List Nat} (h : ∀ z ∈ zs, z < 256) (e n : Int) : ∀ z ∈ cutS e n zs, z < 256 := app_small (cutN_small h _ _ _) (sect6_small _ (footOf_small _ _ _))
/-- The j-th of them stands in its place. -/
theorem cutN_at (e n : Int) (zs : List Nat) (m j : Nat) (h : j < m) (R : List Nat) : (((cutN e n zs m) ++ R).drop (128 * j)).take 128 = sect6 (partOf e n zs j) := by
  induction m generalizing R with
  | zero => omega
  | succ m ih =>
    rw [cutN, List.append_assoc]
    by_cases hj : j < m
    · exact ih hj _
    · obtain rfl : j = m := by omega
      exact take_drop_mid _ _ _ _ _ (cutN_length _ _ _ _) (sect6_length _ (partOf_data _ _ _ _))
theorem cutS_at (e n : Int) (zs : List Nat) (j : Nat) (R : List Nat) (h : j < partsN zs.length) : ((cutS e n zs ++ R).drop (128 * j)).take 128 = sect6 (partOf e n zs j) := by
  rw [cutS, List.append_assoc]; exact cutN_at e n zs _ j h _
theorem cutS_foot (e n : Int) (zs : List Nat) (R : List Nat) : ((cutS e n zs ++ R).drop (128 * partsN zs.length)).take 128 = sect6 (footOf e n zs) := by
  rw [cutS, List.append_assoc]; exact take_drop_mid _ _ _ _ _ (cutN_length _ _ _ _) (sect6_length _ (footOf_data _ _ _))

/-! ### Joined -/
/-- Is this sector told, of that epoch and number, in that place? -/
def fitP (e n : Int) (i : Nat) (o : Option Part) : Bool := match o with | some q => decide (q.epoch = e) && (decide (q.number = n) && decide (q.index = (i : Nat))) | none => false
def footP (o : Option Part) : Bool := match o with | some q => q.foot | none => false
def dataP (o : Option Part) : List Nat := match o with | some q => q.data | none => []
def secAt6 (b : List Nat) (i : Nat) : List Nat := (b.drop (128 * i)).take 128
/-- Join from the i-th sector on, behind that payload. -/
def joinL (b : List Nat) (e n : Int) : Nat → Nat → List Nat → Option (List Nat × Nat)
  | 0, _, _ => none
  | f + 1, i, p =>
    if 128 * i + 128 ≤ b.length then
      (if fitP e n i (getP (secAt6 b i)) = true then
        (if footP (getP (secAt6 b i)) = true then (if 0 < sectorsN p.length ∧ cutS e n p = b.take (128 * i + 128) then some (p, i + 1) else none)
         else joinL b e n f (i + 1) (p ++ dataP (getP (secAt6 b i))))
       else none)
    else none
def joinS (b : List Nat) (e n : Int) : Option (List Nat × Nat) := joinL b e n (b.length / 128 + 1) 0 []
/-- As soon as a sector is not told, or not in its place, or the octets end, nothing is joined. -/
theorem joinL_more (b : List Nat) (e n : Int) : ∀ (f i : Nat) (p : List Nat), b.length / 128 + 1 ≤ f + i → ∀ g, joinL b e n (f + g) i p = joinL b e n f i p
  | 0, i, p, h, g => by
    cases g with
    | zero => rfl
    | succ g =>
      rw [Nat.zero_add]
      show (if 128 * i + 128 ≤ b.length then _ else none) = none
      rw [if_neg (by omega)]
  | f + 1, i, p, h, g => by
    rw [show f + 1 + g = (f + g) + 1 by omega]
    show (if 128 * i + 128 ≤ b.length then _ else none) = (if 128 * i + 128 ≤ b.length then _ else none)
    rw [joinL_more b e n f (i + 1) _ (by omega) g]
theorem take_data (zs : List Nat) (i : Nat) : zs.take (112 * i) ++ (zs.drop (112 * i)).take 112 = zs.take (112 * (i + 1)) := by
  rw [show 112 * (i + 1) = 112 * i + 112 by omega, List.take_add]
theorem joinL_parts {e n : Int} (hid : okId e n = true) (zs : List Nat) (hl : zs.length ≤ 65000) (R : List Nat) : ∀ (k f : Nat), k ≤ partsN zs.length →
    joinL (cutS e n zs ++ R) e n (f + (partsN zs.length - k)) k (zs.take (112 * k)) = joinL (cutS e n zs ++ R) e n f (partsN zs.length) zs := by
  intro k f hk
  induction hd : partsN zs.length - k generalizing k with
  | zero =>
    have e1 : k = partsN zs.length := by omega
    rw [e1, Nat.add_zero, List.take_of_length_le (by unfold partsN; omega)]
  | succ d ih =>
    have hlt : k < partsN zs.length := by omega
    have hp65 : partsN zs.length ≤ 65535 := by unfold partsN; omega
    have hs : secAt6 (cutS e n zs ++ R) k = sect6 (partOf e n zs k) := cutS_at e n zs k R hlt
    have hg := getP_sect _ (partOf_ok hid zs k (by omega))
    have hb : 128 * k + 128 ≤ (cutS e n zs ++ R).length := by rw [List.length_append, cutS_length]; omega
    rw [← ih (k + 1) (by omega) (by omega), ← take_data]
    show (if 128 * k + 128 ≤ (cutS e n zs ++ R).length then _ else none) = _
    rw [if_pos hb, hs, hg]
    have h1 : fitP e n k (some (partOf e n zs k)) = true := by simp [fitP, partOf]
    have h2 : ¬ footP (some (partOf e n zs k)) = true := by simp [footP, partOf]
    rw [if_pos h1, if_neg h2]
    rfl
theorem join_cut {e n : Int} (hid : okId e n = true) (zs : List Nat) (h1 : 1 ≤ zs.length) (hl : zs.length ≤ 65000) (R : List Nat) : joinS (cutS e n zs ++ R) e n = some (zs, partsN zs.length + 1) := by
  have hlen : (cutS e n zs ++ R).length / 128 + 1 = (((cutS e n zs ++ R).length / 128 - partsN zs.length) + 1) + (partsN zs.length - 0) := by
    rw [List.length_append, cutS_length]; omega
  unfold joinS
  rw [hlen]
  have := joinL_parts hid zs hl R 0 ((cutS e n zs ++ R).length / 128 - partsN zs.length + 1) (Nat.zero_le _)
  rw [Nat.mul_zero, List.take_zero] at this
  rw [this]
  have hs : secAt6 (cutS e n zs ++ R) (partsN zs.length) = sect6 (footOf e n zs) := cutS_foot e n zs R
  have hg := getP_sect _ (footOf_ok hid zs hl)
  show (if 128 * partsN zs.length + 128 ≤ (cutS e n zs ++ R).length then _ else none) = _
  rw [if_pos (by rw [List.length_append, cutS_length]; omega), hs, hg]
  have f1 : fitP e n (partsN zs.length) (some (footOf e n zs)) = true := by simp [fitP, footOf]
  have f2 : footP (some (footOf e n zs)) = true := rfl
  have f3 : 0 < sectorsN zs.length ∧ cutS e n zs = (cutS e n zs ++ R).take (128 * partsN zs.length + 128) := by
    refine ⟨by rw [sectorsN_nat _ h1 hl]; omega, ?_⟩
    rw [List.take_append_of_le_length (by rw [cutS_length]; omega), List.take_of_length_le (by rw [cutS_length]; omega)]
  rw [if_pos f1, if_pos f2, if_pos f3]
/-- What is not told in the very first place is not joined. -/
theorem join_first (b : List Nat) (e n : Int) (h : fitP e n 0 (getP (secAt6 b 0)) = false) : joinS b e n = none := by
  unfold joinS
  show (if 128 * 0 + 128 ≤ b.length then _ else none) = none
  split
  · rw [if_neg (by rw [h]; decide)]
  · rfl
/-- Behind parts of a transaction: where the next sector is none, nothing is joined. -/
theorem join_stops {e n : Int} (hid : okId e n = true) (zs : List Nat) (hl : zs.length ≤ 65000) (b : List Nat) (k : Nat) (hk : k ≤ partsN zs.length) (hsec : ∀ j, j < k → secAt6 b j = sect6 (partOf e n zs j)) (hb : 128 * k ≤ b.length)
    (h : b.length < 128 * k + 128 ∨ fitP e n k (getP (secAt6 b k)) = false) : joinS b e n = none := by
  have key : ∀ j f, j ≤ k → joinL b e n (f + (k - j)) j (zs.take (112 * j)) = joinL b e n f k (zs.take (112 * k)) := by
    intro j f hj
    induction hd : k - j generalizing j with
    | zero => rw [show j = k by omega, Nat.add_zero]
    | succ d ih =>
      have hp65 : partsN zs.length ≤ 65535 := by unfold partsN; omega
      have hg := getP_sect _ (partOf_ok hid zs j (by omega))
      rw [← ih (j + 1) (by omega) (by omega), ← take_data]
      show (if 128 * j + 128 ≤ b.length then _ else none) = _
      rw [if_pos (by omega), hsec j (by omega), hg]
      have h1 : fitP e n j (some (partOf e n zs j)) = true := by simp [fitP, partOf]
      have h2 : ¬ footP (some (partOf e n zs j)) = true := by simp [footP, partOf]
      rw [if_pos h1, if_neg h2]
      rfl
  unfold joinS
  rw [show b.length / 128 + 1 = (b.length / 128 - k + 1) + (k - 0) by omega]
  have := key 0 (b.length / 128 - k + 1) (Nat.zero_le _)
  rw [Nat.mul_zero, List.take_zero] at this
  rw [this]
  show (if 128 * k + 128 ≤ b.length then _ else none) = none
  rcases h with h | h
  · rw [if_neg (by omega)]
  · split
    · rw [if_neg (by rw [h]; decide)]
    · rfl
end Go.Proofs.YthhdkadjlddmkaaDoor
