/- Two superblocks that take turns, in plain numbers. -/
import Derived.Test.YtgbibhbmcbbbhaaDoorMathTorn5
namespace Go.Proofs.YtgbibhbmcbbbhaaDoor
open Go.RowKit
set_option linter.unusedVariables false

theorem and_one_i64 (g : Int) (h0 : 0 ≤ g) (h1 : g ≤ 9223372036854775807) : bits .and .i64 g 1 = g % 2 := by
  obtain ⟨A, rfl⟩ := Int.eq_ofNat_of_zero_le h0
  have e : bits .and .i64 (A : Int) 1 = IntKind.i64.wrap (((BitVec.ofInt 64 (A : Int) &&& 1#64).toNat : Nat) : Int) := rfl
  rw [e, BitVec.ofInt_natCast, BitVec.toNat_and, BitVec.toNat_ofNat, Nat.mod_eq_of_lt (by omega)]
  have h : A &&& (1#64).toNat = A % 2 := Nat.and_two_pow_sub_one_eq_mod A 1
  rw [h, IntKind.wrap_i64]
  omega

theorem splice_a1 (A : List Nat) (hA : A.length = 128) : splice (zl 256) 0 A = A ++ zl 128 := by
  have h2 : (zl 256).drop (0 + A.length) = zl 128 := by rw [Nat.zero_add, hA]; unfold zl; rw [List.drop_replicate]
  unfold splice
  rw [h2, List.take_zero, List.nil_append]
theorem splice_a2 (A B : List Nat) (hA : A.length = 128) (hB : B.length = 128) (c : Nat) (hc : c ≤ 128) : splice (A ++ zl 128) 128 (B.take c) = A ++ torn B (zl 128) c := by
  have h1 : (A ++ zl 128).take 128 = A := by rw [← hA, List.take_left]
  have h2 : (A ++ zl 128).drop (128 + (B.take c).length) = (zl 128).drop c := by
    rw [List.length_take, hB, Nat.min_eq_left hc, ← hA, List.drop_append, List.drop_eq_nil_of_le (by omega), Nat.add_sub_cancel_left, List.nil_append]
  unfold splice torn
  rw [h1, h2]
theorem splice_a3 (A X B : List Nat) (hA : A.length = 128) (hX : X.length = 128) (hB : B.length = 128) : splice (A ++ X) 128 B = A ++ B := by
  have h1 : (A ++ X).take 128 = A := by rw [← hA, List.take_left]
  have h2 : (A ++ X).drop (128 + B.length) = [] := List.drop_eq_nil_of_le (by rw [List.length_append]; omega)
  unfold splice
  rw [h1, h2, List.append_nil]
theorem splice_b1 (A : List Nat) (hA : A.length = 128) : splice (zl 256) 128 A = zl 128 ++ A := by
  have h2 : (zl 256).drop (128 + A.length) = [] := List.drop_eq_nil_of_le (by rw [zl_length]; omega)
  have h1 : (zl 256).take 128 = zl 128 := by unfold zl; rw [List.take_replicate]; rfl
  unfold splice
  rw [h1, h2, List.append_nil]
theorem splice_b2 (A B : List Nat) (hA : A.length = 128) (hB : B.length = 128) (c : Nat) (hc : c ≤ 128) : splice (zl 128 ++ A) 0 (B.take c) = torn B (zl 128) c ++ A := by
  have h2 : (zl 128 ++ A).drop (0 + (B.take c).length) = (zl 128).drop c ++ A := by
    rw [Nat.zero_add, List.length_take, hB, Nat.min_eq_left hc, List.drop_append_of_le_length (by rw [zl_length]; exact hc)]
  unfold splice torn
  rw [h2, List.take_zero, List.nil_append, List.append_assoc]
theorem splice_b3 (A X B : List Nat) (hX : X.length = 128) (hB : B.length = 128) : splice (X ++ A) 0 B = B ++ A := by
  have h2 : (X ++ A).drop (0 + B.length) = A := by rw [Nat.zero_add, hB, ← hX, List.drop_left]
  unfold splice
  rw [h2, List.take_zero, List.nil_append]

theorem turns_even (r u : Sup) (hr : r.Fits) (hu : u.Fits) (kr : okS r = true) (ku : okS u = true) (he : r.gen % 2 = 0) (hg : u.gen = r.gen + 1) (c : Nat) (hc : c ≤ 128) :
    newestS (sect r ++ zl 128) = some r ∧ (∃ v, newestS (sect r ++ torn (sect u) (zl 128) c) = some v ∧ (v = r ∨ v = u)) ∧ newestS (sect r ++ sect u) = some u := by
  have tl : (torn (sect u) (zl 128) c).length = 128 := by rw [torn_length _ _ _ (by rw [sect_length, zl_length]) (by rw [sect_length]; exact hc), sect_length]
  have e1 : evenS (some r) = some r := if_pos he
  have e2 : oddS (some u) = some u := if_pos (by omega)
  have e3 : pickS (some r) (some u) = some u := if_neg (by omega)
  refine ⟨?_, ?_, ?_⟩
  · rw [newest_two _ _ (sect_length _) (zl_length _), toldS_sect r hr kr, told_zeros, e1]; rfl
  · rw [newest_two _ _ (sect_length _) tl, toldS_sect r hr kr, e1]
    rcases half_told u hu ku c hc with h | h
    · rw [h]; exact ⟨r, rfl, .inl rfl⟩
    · rw [h, e2, e3]; exact ⟨u, rfl, .inr rfl⟩
  · rw [newest_two _ _ (sect_length _) (sect_length _), toldS_sect r hr kr, toldS_sect u hu ku, e1, e2, e3]
theorem turns_odd (r u : Sup) (hr : r.Fits) (hu : u.Fits) (kr : okS r = true) (ku : okS u = true) (he : r.gen % 2 = 1) (hg : u.gen = r.gen + 1) (c : Nat) (hc : c ≤ 128) :
    newestS (zl 128 ++ sect r) = some r ∧ (∃ v, newestS (torn (sect u) (zl 128) c ++ sect r) = some v ∧ (v = r ∨ v = u)) ∧ newestS (sect u ++ sect r) = some u := by
  have tl : (torn (sect u) (zl 128) c).length = 128 := by rw [torn_length _ _ _ (by rw [sect_length, zl_length]) (by rw [sect_length]; exact hc), sect_length]
  have e1 : oddS (some r) = some r := if_pos he
  have e2 : evenS (some u) = some u := if_pos (by omega)
  have e3 : pickS (some u) (some r) = some u := if_pos (by omega)
  refine ⟨?_, ?_, ?_⟩
  · rw [newest_two _ _ (zl_length _) (sect_length _), toldS_sect r hr kr, told_zeros, e1]; rfl
  · rw [newest_two _ _ tl (sect_length _), toldS_sect r hr kr, e1]
    rcases half_told u hu ku c hc with h | h
    · rw [h]; exact ⟨r, rfl, .inl rfl⟩
    · rw [h, e2, e3]; exact ⟨u, rfl, .inr rfl⟩
  · rw [newest_two _ _ (sect_length _) (sect_length _), toldS_sect r hr kr, toldS_sect u hu ku, e1, e2, e3]
end Go.Proofs.YtgbibhbmcbbbhaaDoor
