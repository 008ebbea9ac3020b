/- Sectors of which a part is another's, in plain numbers: what is told of them, and the top. -/
import Derived.Test.YtgbibhbmcbbbhaaDoorWalkAwake5
namespace Go.Proofs.YtgbibhbmcbbbhaaDoor
open Go.RowKit
set_option linter.unusedVariables false

/-- The first k octets of A, behind them B's. -/
def torn (A B : List Nat) (k : Nat) : List Nat := A.take k ++ B.drop k
theorem torn_length (A B : List Nat) (k : Nat) (h : A.length = B.length) (hk : k ≤ A.length) : (torn A B k).length = A.length := by
  unfold torn; rw [List.length_append, List.length_take, List.length_drop]; omega
theorem torn_at (A B : List Nat) (k : Nat) (hk : k ≤ A.length) (i : Nat) : (torn A B k)[i]? = if i < k then A[i]? else B[i]? := by
  unfold torn
  have hl : (A.take k).length = k := by rw [List.length_take]; omega
  split
  · rename_i h
    rw [List.getElem?_append_left (by omega), List.getElem?_take_of_lt h]
  · rename_i h
    rw [List.getElem?_append_right (by omega), List.getElem?_drop, hl]
    congr 1
    omega
theorem part_at (l : List Nat) (a b i : Nat) : ((l.drop a).take b)[i]? = if i < b then l[a + i]? else none := by
  rw [List.getElem?_take]
  split
  · rw [List.getElem?_drop]
  · rfl
theorem torn_early (A B : List Nat) (k a b : Nat) (hk : k ≤ A.length) (h : a + b ≤ k) : ((torn A B k).drop a).take b = (A.drop a).take b := by
  apply List.ext_getElem?
  intro i
  rw [part_at, part_at]
  split
  · rw [torn_at A B k hk, if_pos (by omega)]
  · rfl
theorem torn_late (A B : List Nat) (k a b : Nat) (hk : k ≤ A.length) (h : k ≤ a) : ((torn A B k).drop a).take b = (B.drop a).take b := by
  apply List.ext_getElem?
  intro i
  rw [part_at, part_at]
  split
  · rw [torn_at A B k hk, if_neg (by omega)]
  · rfl
theorem small_gen (g : Int) (h0 : 0 ≤ g) (h1 : g ≤ 255) (i : Nat) (hi : 1 ≤ i) (h8 : i < 8) : (octZ g 8)[i]? = some 0 := by
  have : i = 1 ∨ i = 2 ∨ i = 3 ∨ i = 4 ∨ i = 5 ∨ i = 6 ∨ i = 7 := by omega
  have e : (octZ g 8)[i]? = some (octet g i).toNat := by
    unfold octZ octL
    rw [List.getElem?_map, List.getElem?_map, List.getElem?_range h8]
    rfl
  rw [e]
  rcases this with rfl | rfl | rfl | rfl | rfl | rfl | rfl <;> (unfold octet; simp; omega)
theorem torn_gen (A B : List Nat) (k p : Nat) (hk : k ≤ A.length) (a b : Int) (hA : (A.drop p).take 8 = octZ a 8) (hB : (B.drop p).take 8 = octZ b 8) (a0 : 0 ≤ a) (a1 : a ≤ 255) (b0 : 0 ≤ b) (b1 : b ≤ 255) :
    ((torn A B k).drop p).take 8 = if p < k then octZ a 8 else octZ b 8 := by
  by_cases hp : p < k
  · rw [if_pos hp]
    apply List.ext_getElem?
    intro i
    rw [part_at]
    split
    · rename_i hi
      rw [torn_at A B k hk]
      have eA : A[p + i]? = (octZ a 8)[i]? := by rw [← hA, part_at, if_pos hi]
      have eB : B[p + i]? = (octZ b 8)[i]? := by rw [← hB, part_at, if_pos hi]
      split
      · exact eA
      · rw [eB, small_gen b b0 b1 i (by omega) hi, small_gen a a0 a1 i (by omega) hi]
    · rename_i hi
      rw [List.getElem?_eq_none (by rw [octZ_length]; omega)]
  · rw [if_neg hp, torn_late A B k p 8 hk (by omega), hB]
theorem sect_parts (s : Sup) : ((sect s).drop 4).take 8 = octZ s.gen 8 ∧ ((sect s).drop 116).take 8 = octZ s.gen 8 := by
  obtain ⟨h1, _, _, _, _, _, _, _, h2⟩ := body_parts s (octN (crcSum (body s)))
  exact ⟨h1, h2⟩
theorem sect_mark (s : Sup) (i : Nat) (h : i < 4) : (sect s)[i]? = [77, 79, 84, 72][i]? := by
  have : i = 0 ∨ i = 1 ∨ i = 2 ∨ i = 3 := by omega
  unfold sect body
  rcases this with rfl | rfl | rfl | rfl <;> rfl
theorem readS_early (A B : List Nat) (k : Nat) (hk : k ≤ A.length) (h : 40 ≤ k) : readS (torn A B k) = readS A := by
  unfold readS genAt numAt
  rw [torn_early A B k 4 8 hk (by omega), torn_early A B k 12 4 hk (by omega), torn_early A B k 16 4 hk (by omega), torn_early A B k 20 4 hk (by omega), torn_early A B k 24 4 hk (by omega), torn_early A B k 28 4 hk (by omega), torn_early A B k 32 4 hk (by omega), torn_early A B k 36 4 hk (by omega)]
theorem told_early (s : Sup) (hf : s.Fits) (hr : okS s = true) (B : List Nat) (k : Nat) (hk : k ≤ 128) (h : 40 ≤ k) : toldS (torn (sect s) B k) = none ∨ toldS (torn (sect s) B k) = some s := by
  cases e : toldS (torn (sect s) B k) with
  | none => exact .inl rfl
  | some u =>
    obtain ⟨_, _, h3⟩ := toldS_some e
    rw [readS_early _ B k (by rw [sect_length]; exact hk) h, readS_sect s hf hr] at h3
    exact .inr (by rw [h3])
/-- Whoever is told has its Gen twice. -/
theorem told_twice {zs : List Nat} {u : Sup} (h : toldS zs = some u) : (zs.drop 4).take 8 = octZ u.gen 8 ∧ (zs.drop 116).take 8 = octZ u.gen 8 ∧ 1 ≤ u.gen ∧ u.gen ≤ 281474976710656 := by
  obtain ⟨h1, h2, _⟩ := toldS_some h
  have := told_gen h
  rw [← h2]
  exact ⟨(sect_parts u).1, (sect_parts u).2, this.1, this.2⟩

theorem torn_told (s t : Sup) (hs : s.Fits) (ht : t.Fits) (rs : okS s = true) (rt : okS t = true) (hlt : s.gen < t.gen) (h255 : t.gen ≤ 255) (k : Nat) (hk : k ≤ 128) :
    toldS (torn (sect t) (sect s) k) = none ∨ toldS (torn (sect t) (sect s) k) = some s ∨ toldS (torn (sect t) (sect s) k) = some t := by
  have g := (okS_right.1 rs).gen
  have hkl : k ≤ (sect t).length := by rw [sect_length]; exact hk
  by_cases h4 : k ≤ 4
  · have e : torn (sect t) (sect s) k = sect s := by
      apply List.ext_getElem?
      intro i
      rw [torn_at _ _ k hkl]
      split
      · rw [sect_mark t i (by omega), sect_mark s i (by omega)]
      · rfl
    rw [e]
    exact .inr (.inl (toldS_sect s hs rs))
  · by_cases h116 : k ≤ 116
    · cases e : toldS (torn (sect t) (sect s) k) with
      | none => exact .inl rfl
      | some u =>
        exfalso
        obtain ⟨e1, e2, u1, u2⟩ := told_twice e
        rw [torn_gen _ _ k 4 hkl t.gen s.gen (sect_parts t).1 (sect_parts s).1 (by omega) (by omega) (by omega) (by omega), if_pos (by omega)] at e1
        rw [torn_gen _ _ k 116 hkl t.gen s.gen (sect_parts t).2 (sect_parts s).2 (by omega) (by omega) (by omega) (by omega), if_neg (by omega), ← e1] at e2
        have := congrArg getO e2
        rw [getO_octZ8 _ (by omega) (by omega), getO_octZ8 _ (by omega) (by omega)] at this
        omega
    · rcases told_early t ht rt (sect s) k hk (by omega) with h | h
      · exact .inl h
      · exact .inr (.inr h)
theorem drop_take_left (x y : List Nat) (a b : Nat) (h : a + b ≤ x.length) : ((x ++ y).drop a).take b = (x.drop a).take b := by
  rw [List.drop_append_of_le_length (by omega), List.take_append_of_le_length (by rw [List.length_drop]; omega)]
theorem drop_take_right (x y : List Nat) (a b n : Nat) (h : x.length = n) : ((x ++ y).drop (n + a)).take b = (y.drop a).take b := by
  subst h
  rw [List.drop_append, List.drop_eq_nil_of_le (by omega), Nat.add_sub_cancel_left, List.nil_append]
theorem genAt_zl (a : Nat) (h : a + 8 ≤ 128) : genAt (zl 128) a = 0 := by
  unfold genAt zl
  rw [List.drop_replicate, List.take_replicate, Nat.min_eq_left (by omega)]
  decide +kernel
theorem torn_top (s t : Sup) (rs : okS s = true) (hlt : s.gen < t.gen) (h255 : t.gen ≤ 255) (k : Nat) (hk : k ≤ 128) :
    topS (torn (sect t) (sect s) k ++ zl 128) = if 4 < k then t.gen else s.gen := by
  have g := (okS_right.1 rs).gen
  have hkl : k ≤ (sect t).length := by rw [sect_length]; exact hk
  have hl : (torn (sect t) (sect s) k).length = 128 := by rw [torn_length _ _ _ (by rw [sect_length, sect_length]) hkl, sect_length]
  have e1 : genAt (torn (sect t) (sect s) k ++ zl 128) 4 = if 4 < k then t.gen else s.gen := by
    unfold genAt
    rw [drop_take_left _ _ 4 8 (by omega), torn_gen _ _ k 4 hkl t.gen s.gen (sect_parts t).1 (sect_parts s).1 (by omega) (by omega) (by omega) (by omega)]
    split <;> exact getO_octZ8 _ (by omega) (by omega)
  have e2 : genAt (torn (sect t) (sect s) k ++ zl 128) 116 = if 116 < k then t.gen else s.gen := by
    unfold genAt
    rw [drop_take_left _ _ 116 8 (by omega), torn_gen _ _ k 116 hkl t.gen s.gen (sect_parts t).2 (sect_parts s).2 (by omega) (by omega) (by omega) (by omega)]
    split <;> exact getO_octZ8 _ (by omega) (by omega)
  have e3 : genAt (torn (sect t) (sect s) k ++ zl 128) 132 = 0 := by
    have := genAt_zl 4 (by decide)
    unfold genAt at this ⊢
    rw [show 132 = 128 + 4 by rfl, drop_take_right _ _ 4 8 128 hl, this]
  have e4 : genAt (torn (sect t) (sect s) k ++ zl 128) 244 = 0 := by
    have := genAt_zl 116 (by decide)
    unfold genAt at this ⊢
    rw [show 244 = 128 + 116 by rfl, drop_take_right _ _ 116 8 128 hl, this]
  unfold topS
  rw [if_pos (by rw [List.length_append, hl, zl_length]), e1, e2, e3, e4]
  unfold topStep
  by_cases h4 : 4 < k
  · by_cases h116 : 116 < k
    · simp only [h4, h116, if_true]; repeat (first | omega | split)
    · simp only [h4, h116, if_true, if_false]; repeat (first | omega | split)
  · have h116 : ¬ 116 < k := by omega
    simp only [h4, h116, if_false]; repeat (first | omega | split)

/-! ### A sector over noughts -/
theorem half_told (s : Sup) (hf : s.Fits) (hr : okS s = true) (k : Nat) (hk : k ≤ 128) : toldS (torn (sect s) (zl 128) k) = none ∨ toldS (torn (sect s) (zl 128) k) = some s := by
  by_cases h : 40 ≤ k
  · exact told_early s hf hr _ k hk h
  · left
    cases e : toldS (torn (sect s) (zl 128) k) with
    | none => rfl
    | some u =>
      exfalso
      obtain ⟨_, e2, u1, u2⟩ := told_twice e
      rw [torn_late _ _ k 116 8 (by rw [sect_length]; exact hk) (by omega)] at e2
      have := congrArg getO e2
      rw [getO_octZ8 _ (by omega) (by omega), show getO (((zl 128).drop 116).take 8) = 0 from genAt_zl 116 (by decide)] at this
      omega
end Go.Proofs.YtgbibhbmcbbbhaaDoor
