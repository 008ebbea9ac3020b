/- Contracts of 'within', 'Right', the document's 'in' and 'Right', the law's 'plain'. -/
import Derived.Test.YtgbibhbmcbbbhaaDoorSuper5
namespace Go.Proofs.YtgbibhbmcbbbhaaDoor
open Go.RowKit
set_option linter.unusedVariables false

theorem btw_yes {n l m : Int} (h1 : l ≤ n) (h2 : n ≤ m) : btw n l m = true := decide_eq_true ⟨h1, h2⟩
theorem btw_no1 {n l m : Int} (h : n < l) : btw n l m = false := decide_eq_false fun e => by omega
theorem btw_no2 {n l m : Int} (h : m < n) : btw n l m = false := decide_eq_false fun e => by omega

theorem within5 (n l m : Int) (w : World) : Calls Tryd.prog 21 #[.int .i64 n, .int .i64 l, .int .i64 m] w fun e w' => e = .returned (.bool (btw n l m)) ∧ w' = w := by
  by_cases h1 : l ≤ n
  · by_cases h2 : n ≤ m
    · go_enter Tryd.func21, Tryd.ntmps21
      go_wp2
      go_ret
      exact ⟨ret_bool (btw_yes h1 h2).symm, rfl⟩
    · go_enter Tryd.func21, Tryd.ntmps21
      go_wp2
      go_ret
      exact ⟨ret_bool (btw_no2 h2).symm, rfl⟩
  · go_enter Tryd.func21, Tryd.ntmps21
    go_wp2
    go_ret
    exact ⟨ret_bool (btw_no1 h1).symm, rfl⟩
theorem in5 (n l m : Int) (w : World) : Calls Tryd.prog 22 #[.int .i64 n, .int .i64 l, .int .i64 m] w fun e w' => e = .returned (.bool (btw n l m)) ∧ w' = w := by
  by_cases h1 : l ≤ n
  · by_cases h2 : n ≤ m
    · go_enter Tryd.func22, Tryd.ntmps22
      go_wp2
      go_ret
      exact ⟨ret_bool (btw_yes h1 h2).symm, rfl⟩
    · go_enter Tryd.func22, Tryd.ntmps22
      go_wp2
      go_ret
      exact ⟨ret_bool (btw_no2 h2).symm, rfl⟩
  · go_enter Tryd.func22, Tryd.ntmps22
    go_wp2
    go_ret
    exact ⟨ret_bool (btw_no1 h1).symm, rfl⟩

set_option maxHeartbeats 1000000 in
theorem right5 (s : Sup) (hf : s.Fits) (w : World) : Calls Tryd.prog 10 #[sval s] w fun e w' => e = .returned (.bool (okS s)) ∧ Below w.heap.size w w' := by
  have hj := hf.journal
  have HB : Hid (okS s = (btw s.gen 1 281474976710656 && (btw s.journal 4 4096 && (btw s.area 1 4096 && (btw s.which 0 1 && (btw s.len 0 (128 * s.area) && (btw s.epoch 1 2147483648 && btw s.start 0 (s.journal - 1)))))))) := rfl
  clear hf
  go_enter Tryd.func10, Tryd.ntmps10
  go_wp2_with fail
  refine (within5 s.gen 1 281474976710656 _).mono ?_
  rintro e w0 ⟨rfl, rfl⟩
  by_cases h0 : btw s.gen 1 281474976710656 = true
  case neg =>
    have h0' : btw s.gen 1 281474976710656 = false := by simpa using h0
    rw [h0']
    go_wp2
    go_ret
    exact ⟨ret_bool (by rw [HB.out, h0']; rfl), (Below.refl _ _).alloc (Nat.le_refl _) _⟩
  rw [h0]
  go_wp2_with fail
  refine (within5 s.journal 4 4096 _).mono ?_
  rintro e w1 ⟨rfl, rfl⟩
  by_cases h1 : btw s.journal 4 4096 = true
  case neg =>
    have h1' : btw s.journal 4 4096 = false := by simpa using h1
    rw [h1']
    go_wp2
    go_ret
    exact ⟨ret_bool (by rw [HB.out, h0, h1']; rfl), (Below.refl _ _).alloc (Nat.le_refl _) _⟩
  rw [h1]
  have hJ : 4 ≤ s.journal ∧ s.journal ≤ 4096 := of_decide_eq_true h1
  have ej : IntKind.i64.wrap (s.journal - 1) = s.journal - 1 := by rw [IntKind.wrap_i64]; omega
  go_wp2_with fail
  refine (within5 s.area 1 4096 _).mono ?_
  rintro e w2 ⟨rfl, rfl⟩
  by_cases h2 : btw s.area 1 4096 = true
  case neg =>
    have h2' : btw s.area 1 4096 = false := by simpa using h2
    rw [h2']
    go_wp2
    go_ret
    exact ⟨ret_bool (by rw [HB.out, h0, h1, h2']; rfl), (Below.refl _ _).alloc (Nat.le_refl _) _⟩
  rw [h2]
  have hA : 1 ≤ s.area ∧ s.area ≤ 4096 := of_decide_eq_true h2
  have e128 : IntKind.i64.wrap (128 * s.area) = 128 * s.area := by rw [IntKind.wrap_i64]; omega
  go_wp2_with fail
  refine (within5 s.which 0 1 _).mono ?_
  rintro e w3 ⟨rfl, rfl⟩
  by_cases h3 : btw s.which 0 1 = true
  case neg =>
    have h3' : btw s.which 0 1 = false := by simpa using h3
    rw [h3']
    go_wp2
    go_ret
    exact ⟨ret_bool (by rw [HB.out, h0, h1, h2, h3']; rfl), (Below.refl _ _).alloc (Nat.le_refl _) _⟩
  rw [h3]
  go_wp2_with fail
  refine (within5 s.len 0 (128 * s.area) _).mono ?_
  rintro e w4 ⟨rfl, rfl⟩
  by_cases h4 : btw s.len 0 (128 * s.area) = true
  case neg =>
    have h4' : btw s.len 0 (128 * s.area) = false := by simpa using h4
    rw [h4']
    go_wp2
    go_ret
    exact ⟨ret_bool (by rw [HB.out, h0, h1, h2, h3, h4']; rfl), (Below.refl _ _).alloc (Nat.le_refl _) _⟩
  rw [h4]
  go_wp2_with fail
  refine (within5 s.epoch 1 2147483648 _).mono ?_
  rintro e w5 ⟨rfl, rfl⟩
  by_cases h5 : btw s.epoch 1 2147483648 = true
  case neg =>
    have h5' : btw s.epoch 1 2147483648 = false := by simpa using h5
    rw [h5']
    go_wp2
    go_ret
    exact ⟨ret_bool (by rw [HB.out, h0, h1, h2, h3, h4, h5']; rfl), (Below.refl _ _).alloc (Nat.le_refl _) _⟩
  rw [h5]
  go_wp2_with fail
  refine (within5 s.start 0 (s.journal - 1) _).mono ?_
  rintro e w6 ⟨rfl, rfl⟩
  by_cases h6 : btw s.start 0 (s.journal - 1) = true
  case neg =>
    have h6' : btw s.start 0 (s.journal - 1) = false := by simpa using h6
    rw [h6']
    go_wp2
    go_ret
    exact ⟨ret_bool (by rw [HB.out, h0, h1, h2, h3, h4, h5, h6']; rfl), (Below.refl _ _).alloc (Nat.le_refl _) _⟩
  rw [h6]
  go_wp2
  go_ret
  exact ⟨ret_bool (by rw [HB.out, h0, h1, h2, h3, h4, h5, h6]; rfl), (Below.refl _ _).alloc (Nat.le_refl _) _⟩

set_option maxHeartbeats 1000000 in
theorem refRight5 (s : Sup) (hf : s.Fits) (w : World) : Calls Tryd.prog 11 #[sval s] w fun e w' => e = .returned (.bool (okS s)) ∧ Below w.heap.size w w' := by
  have hj := hf.journal
  have HB : Hid (okS s = (btw s.gen 1 281474976710656 && (btw s.journal 4 4096 && (btw s.area 1 4096 && (btw s.which 0 1 && (btw s.len 0 (128 * s.area) && (btw s.epoch 1 2147483648 && btw s.start 0 (s.journal - 1)))))))) := rfl
  clear hf
  go_enter Tryd.func11, Tryd.ntmps11
  go_wp2_with fail
  refine (in5 s.gen 1 281474976710656 _).mono ?_
  rintro e w0 ⟨rfl, rfl⟩
  by_cases h0 : btw s.gen 1 281474976710656 = true
  case neg =>
    have h0' : btw s.gen 1 281474976710656 = false := by simpa using h0
    rw [h0']
    go_wp2
    go_ret
    exact ⟨ret_bool (by rw [HB.out, h0']; rfl), (Below.refl _ _).alloc (Nat.le_refl _) _⟩
  rw [h0]
  go_wp2_with fail
  refine (in5 s.journal 4 4096 _).mono ?_
  rintro e w1 ⟨rfl, rfl⟩
  by_cases h1 : btw s.journal 4 4096 = true
  case neg =>
    have h1' : btw s.journal 4 4096 = false := by simpa using h1
    rw [h1']
    go_wp2
    go_ret
    exact ⟨ret_bool (by rw [HB.out, h0, h1']; rfl), (Below.refl _ _).alloc (Nat.le_refl _) _⟩
  rw [h1]
  have hJ : 4 ≤ s.journal ∧ s.journal ≤ 4096 := of_decide_eq_true h1
  have ej : IntKind.i64.wrap (s.journal - 1) = s.journal - 1 := by rw [IntKind.wrap_i64]; omega
  go_wp2_with fail
  refine (in5 s.area 1 4096 _).mono ?_
  rintro e w2 ⟨rfl, rfl⟩
  by_cases h2 : btw s.area 1 4096 = true
  case neg =>
    have h2' : btw s.area 1 4096 = false := by simpa using h2
    rw [h2']
    go_wp2
    go_ret
    exact ⟨ret_bool (by rw [HB.out, h0, h1, h2']; rfl), (Below.refl _ _).alloc (Nat.le_refl _) _⟩
  rw [h2]
  have hA : 1 ≤ s.area ∧ s.area ≤ 4096 := of_decide_eq_true h2
  have e128 : IntKind.i64.wrap (128 * s.area) = 128 * s.area := by rw [IntKind.wrap_i64]; omega
  go_wp2_with fail
  refine (in5 s.which 0 1 _).mono ?_
  rintro e w3 ⟨rfl, rfl⟩
  by_cases h3 : btw s.which 0 1 = true
  case neg =>
    have h3' : btw s.which 0 1 = false := by simpa using h3
    rw [h3']
    go_wp2
    go_ret
    exact ⟨ret_bool (by rw [HB.out, h0, h1, h2, h3']; rfl), (Below.refl _ _).alloc (Nat.le_refl _) _⟩
  rw [h3]
  go_wp2_with fail
  refine (in5 s.len 0 (128 * s.area) _).mono ?_
  rintro e w4 ⟨rfl, rfl⟩
  by_cases h4 : btw s.len 0 (128 * s.area) = true
  case neg =>
    have h4' : btw s.len 0 (128 * s.area) = false := by simpa using h4
    rw [h4']
    go_wp2
    go_ret
    exact ⟨ret_bool (by rw [HB.out, h0, h1, h2, h3, h4']; rfl), (Below.refl _ _).alloc (Nat.le_refl _) _⟩
  rw [h4]
  go_wp2_with fail
  refine (in5 s.epoch 1 2147483648 _).mono ?_
  rintro e w5 ⟨rfl, rfl⟩
  by_cases h5 : btw s.epoch 1 2147483648 = true
  case neg =>
    have h5' : btw s.epoch 1 2147483648 = false := by simpa using h5
    rw [h5']
    go_wp2
    go_ret
    exact ⟨ret_bool (by rw [HB.out, h0, h1, h2, h3, h4, h5']; rfl), (Below.refl _ _).alloc (Nat.le_refl _) _⟩
  rw [h5]
  go_wp2_with fail
  refine (in5 s.start 0 (s.journal - 1) _).mono ?_
  rintro e w6 ⟨rfl, rfl⟩
  by_cases h6 : btw s.start 0 (s.journal - 1) = true
  case neg =>
    have h6' : btw s.start 0 (s.journal - 1) = false := by simpa using h6
    rw [h6']
    go_wp2
    go_ret
    exact ⟨ret_bool (by rw [HB.out, h0, h1, h2, h3, h4, h5, h6']; rfl), (Below.refl _ _).alloc (Nat.le_refl _) _⟩
  rw [h6]
  go_wp2
  go_ret
  exact ⟨ret_bool (by rw [HB.out, h0, h1, h2, h3, h4, h5, h6]; rfl), (Below.refl _ _).alloc (Nat.le_refl _) _⟩

theorem plain5 (g : Int) (w : World) : Calls Tryd.prog 19 #[.int .i64 g] w fun e w' => e = .returned (sval ⟨g, 4, 1, 0, 0, 0, 1, 0⟩) ∧ Below w.heap.size w w' := by
  go_enter Tryd.func19, Tryd.ntmps19
  go_wp2
  exact bodyPost_ret (v := sval ⟨g, 4, 1, 0, 0, 0, 1, 0⟩) (by simp [results, Tryd.results19, go_sem]) rfl ⟨rfl, (Below.refl _ _).alloc (Nat.le_refl _) _⟩
end Go.Proofs.YtgbibhbmcbbbhaaDoor
