/- order of package key, over cmp.Or and cmp.Compare. -/
import Derived.Test.YtfclhehpbniapaaKeys10
import Derived.Shelf.SlSortCmp.NoneTotal
import Derived.Test.YtfclhehpbniapaaLaySort
import Derived.Deep.RegionHeld3
namespace Go.Proofs.Ytfclhehpbniapaa
open Go.RowKit Go.Shelf Go.Lib Go.Sort
set_option linter.unusedVariables false

/-- How two stand. -/
def cmpI (a b : Int) : Int := if a < b then -1 else if b < a then 1 else 0
theorem cmpI_le (a b : Int) : -1 ≤ cmpI a b ∧ cmpI a b ≤ 1 := by
  unfold cmpI
  split
  · omega
  · split <;> omega
theorem isNaN_any (a : Int) (w : World) :
    Calls Try.prog 65 #[.int .i64 a] w fun e w' => e = .returned (.bool false) ∧ w' = w := by
  go_enter Try.func65, Try.ntmps65
  go_wp2
  go_ret
  exact ⟨by simp, rfl⟩
theorem compare_any (a b : Int) (w : World) :
    Calls Try.prog 54 #[.int .i64 a, .int .i64 b] w fun e w' => e = .returned (.int .i64 (cmpI a b)) ∧ w' = w := by
  have HNA : Hid (∀ x W, Calls Try.prog 65 #[.int .i64 x] W fun e w' => e = .returned (.bool false) ∧ w' = W) := isNaN_any
  by_cases h1 : a < b
  · have HC : Hid (cmpI a b = -1) := by unfold Hid cmpI; rw [if_pos h1]
    go_enter Try.func54, Try.ntmps54
    go_wp2_with (go_at_call 65; refine (HNA.out _ _).mono ?_; rintro e1 w1 ⟨rfl, rfl⟩)
    go_ret
    exact ⟨ret_int HC.out.symm, rfl⟩
  · have h1' : (a < b) = False := eq_false h1
    by_cases h2 : b < a
    · have HC : Hid (cmpI a b = 1) := by unfold Hid cmpI; rw [if_neg h1, if_pos h2]
      go_enter Try.func54, Try.ntmps54
      go_wp2_with (go_at_call 65; refine (HNA.out _ _).mono ?_; rintro e1 w1 ⟨rfl, rfl⟩)
      go_ret
      exact ⟨ret_int HC.out.symm, rfl⟩
    · have h2' : (b < a) = False := eq_false h2
      have HC : Hid (cmpI a b = 0) := by unfold Hid cmpI; rw [if_neg h1, if_neg h2]
      go_enter Try.func54, Try.ntmps54
      go_wp2_with (go_at_call 65; refine (HNA.out _ _).mono ?_; rintro e1 w1 ⟨rfl, rfl⟩)
      go_ret
      exact ⟨ret_int HC.out.symm, rfl⟩
def orI (x y : Int) : Int := if x = 0 then y else x
theorem or_any (b : Nat) (x y : Int) (w : World) (c0 : w.cell? ⟨b, 0, none⟩ = some (.int .i64 x)) (c1 : w.cell? ⟨b, 1, none⟩ = some (.int .i64 y)) :
    Calls Try.prog 53 #[.slice (some ⟨b, 0, none⟩) 2 2] w fun e w' => e = .returned (.int .i64 (orI x y)) ∧ w' = w := by
  by_cases h1 : x = 0
  · subst h1
    by_cases h2 : y = 0
    · subst h2
      have HC : Hid (orI 0 0 = 0) := rfl
      go_enter Try.func53, Try.ntmps53
      go_wp2
      refine wp_loop_rounds 3 ?_
      rw [rounds_succ]
      go_wp2
      rw [rounds_succ]
      go_wp2
      rw [rounds_succ]
      go_wp2
      go_ret
      exact ⟨ret_int HC.out.symm, rfl⟩
    · have HC : Hid (orI 0 y = y) := by unfold Hid orI; rw [if_pos rfl]
      have hne : (y != 0) = true := by simpa using h2
      go_enter Try.func53, Try.ntmps53
      go_wp2
      refine wp_loop_rounds 3 ?_
      rw [rounds_succ]
      go_wp2
      rw [rounds_succ]
      go_wp2
      go_ret
      exact ⟨ret_int HC.out.symm, rfl⟩
  · have HC : Hid (orI x y = x) := by unfold Hid orI; rw [if_neg h1]
    have hne : (x != 0) = true := by simpa using h1
    go_enter Try.func53, Try.ntmps53
    go_wp2
    refine wp_loop_rounds 3 ?_
    rw [rounds_succ]
    go_wp2
    go_ret
    exact ⟨ret_int HC.out.symm, rfl⟩
/-- How two keys stand. -/
def cmpK (a b : Ky) : Int := orI (cmpI a.1 b.1) (cmpI a.2 b.2)
theorem ltOf_cmpK (a b : Ky) : ltOf cmpK a b = decide (KLt a b) := by
  obtain ⟨a1, a2⟩ := a
  obtain ⟨b1, b2⟩ := b
  unfold ltOf cmpK orI cmpI KLt
  simp only
  by_cases h1 : a1 < b1
  · simp [h1]
  · by_cases h2 : b1 < a1
    · have : ¬ a1 = b1 := by omega
      simp [h1, h2, this]
    · have e : a1 = b1 := by omega
      subst e
      by_cases h3 : a2 < b2
      · simp [h3]
      · by_cases h4 : b2 < a2 <;> simp [h3, h4]
theorem new_two (V : World) (u v : Value) (t : TypeId) (n : Nat) (h : n = V.heap.size) : (V.alloc (.cells #[u, v] t)).drew.cell? ⟨n, 0, none⟩ = some u ∧ (V.alloc (.cells #[u, v] t)).drew.cell? ⟨n, 1, none⟩ = some v := by
  subst h
  exact ⟨by simp, by simp⟩
theorem three_grown (w : World) (a b c : Obj) : ((((w.alloc a).alloc b).alloc c).drew) = grow (w.drewN 1) #[a, b, c] := by
  rw [alloc_eq_grow, alloc_eq_grow, alloc_eq_grow, grow_grow, grow_grow]
  rfl
theorem keep_alloc {W : World} {X i : Nat} {v : Value} (hX : X < W.heap.size) (h : W.cell? ⟨X, i, none⟩ = some v) (o : Obj) : (W.alloc o).drew.cell? ⟨X, i, none⟩ = some v :=
  ((((Below.refl W.heap.size W).alloc (Nat.le_refl _) o)).cell (p := ⟨X, i, none⟩) hX).trans h
set_option maxHeartbeats 1000000 in
theorem order_any (a b : Ky) (w : World) :
    Calls Try.prog 50 #[.agg #[.int .i64 a.1, .int .i64 a.2], .agg #[.int .i64 b.1, .int .i64 b.2]] w fun e w' => e = .returned (.int .i64 (cmpK a b)) ∧ ∃ q os', w' = grow (w.drewN q) os' := by
  obtain ⟨a1, a2⟩ := a
  obtain ⟨b1, b2⟩ := b
  simp only
  have HC : Hid (∀ x y W, Calls Try.prog 54 #[.int .i64 x, .int .i64 y] W fun e w' => e = .returned (.int .i64 (cmpI x y)) ∧ w' = W) := compare_any
  have HK : Hid (cmpK (a1, a2) (b1, b2) = orI (cmpI a1 b1) (cmpI a2 b2)) := rfl
  rw [HK.out]
  clear HK
  go_enter Try.func50, Try.ntmps50
  go_wp2_with fail
  obtain ⟨W0, hW⟩ : ∃ W0, W0 = (w.alloc (.cells #[.int .i64 a1, .int .i64 a2] 36)).alloc (.cells #[.int .i64 b1, .int .i64 b2] 36) := ⟨_, rfl⟩
  have c0 : W0.cell? ⟨w.heap.size, 0, none⟩ = some (.int .i64 a1) := by rw [hW]; simp
  have c1 : W0.cell? ⟨w.heap.size, 1, none⟩ = some (.int .i64 a2) := by rw [hW]; simp
  have c2 : W0.cell? ⟨w.heap.size + 1, 0, none⟩ = some (.int .i64 b1) := by rw [hW]; simp
  have c3 : W0.cell? ⟨w.heap.size + 1, 1, none⟩ = some (.int .i64 b2) := by rw [hW]; simp
  have HG : Hid (∀ o, ∃ os', (W0.alloc o).drew = grow (w.drewN 1) os') := fun o => ⟨_, by rw [hW]; exact three_grown _ _ _ _⟩
  have HO : Hid (∀ x y, Calls Try.prog 53 #[.slice (some ⟨W0.heap.size, 0, none⟩) 2 2] (W0.alloc (.cells #[.int .i64 x, .int .i64 y] 3)).drew fun e w' => e = .returned (.int .i64 (orI x y)) ∧ w' = (W0.alloc (.cells #[.int .i64 x, .int .i64 y] 3)).drew) := fun x y => or_any _ x y _ (new_two _ _ _ _ _ rfl).1 (new_two _ _ _ _ _ rfl).2
  have hXY : w.heap.size ≠ w.heap.size + 1 := by omega
  rw [← hW]
  have hs0 : w.heap.size < W0.heap.size ∧ w.heap.size + 1 < W0.heap.size := by rw [hW]; simp; omega
  clear hW
  generalize hX : w.heap.size = X at *
  generalize hY : X + 1 = Y at *
  clear hX hY hXY
  go_region_held3 (fun w' => w'.cell? ⟨X, 0, none⟩ = some (.int .i64 a1) ∧ w'.cell? ⟨X, 1, none⟩ = some (.int .i64 a2) ∧ w'.cell? ⟨Y, 0, none⟩ = some (.int .i64 b1) ∧ w'.cell? ⟨Y, 1, none⟩ = some (.int .i64 b2)) (first | exact ⟨c0, c1, c2, c3⟩ | exact ⟨keep_alloc hs0.1 c0 _, keep_alloc hs0.1 c1 _, keep_alloc hs0.2 c2 _, keep_alloc hs0.2 c3 _⟩) (first
    | (go_at_call 54; refine (HC.out _ _ _).mono ?_; rintro e1 w1 ⟨rfl, rfl⟩)
    | (go_at_call 53; refine (HO.out _ _).mono ?_; rintro e1 w1 ⟨rfl, rfl⟩))
  all_goals
    go_wp2
    go_ret
    exact ⟨rfl, 1, HG.out _⟩

/-! ### slices.SortFunc over keys -/
def encKy (k : Ky) : List Value := [.int .i64 k.1, .int .i64 k.2]
theorem orderLays (blk off size : Nat) (w : World) : CmpLays Try.prog 50 #[] encKy 2 cmpK blk off size w :=
  fun _ _ _ _ x y => order_any x y _
theorem swoK : SWO (ltOf cmpK) where
  irrefl x := by rw [ltOf_cmpK]; exact decide_eq_false (KLt.irr x)
  trans x y z h1 h2 := by
    rw [ltOf_cmpK] at *
    exact decide_eq_true ((of_decide_eq_true h1).trans (of_decide_eq_true h2))
  ntrans x y z h1 h2 := by
    rw [ltOf_cmpK] at *
    simp only [decide_eq_false_iff_not] at *
    unfold KLt at *
    omega
theorem totK (x y : Ky) (h1 : ltOf cmpK x y = false) (h2 : ltOf cmpK y x = false) : x = y := by
  rw [ltOf_cmpK] at h1 h2
  simp only [decide_eq_false_iff_not] at h1 h2
  rcases Decidable.em (x = y) with e | e
  · exact e
  · exact absurd (klt_or e h1) h2
set_option maxHeartbeats 1000000 in
theorem sortFunc_any (blk off cap : Nat) (d : Array Ky) (w : World) (hH : HoldsK encKy 2 w blk off d) (hblk : blk < w.heap.size) (hsz : d.size < 4611686018427387904) :
    Calls Try.prog 49 #[.slice (some ⟨blk, off, none⟩) d.size cap, .func (.func 50) #[] #[]] w fun e w' => e = .returned (.tuple #[]) ∧ ∃ n os, w' = sortWorldK encKy 2 w blk off n (d.toList.mergeSort fun x y => !(ltOf cmpK) y x).toArray os := by
  have eg : ∀ args w, (callFunc 50 args).run Try.prog w = .ok (.enter 50 args) w := enters_of Try.func50 (by kernel_rfl) rfl
  exact AnyQ.slices_SortFunc_total Try.sortK 2 Try.isAgg36 Try.sizeOf36 encKy (fun _ => rfl) (fun x v hv => by simp [encKy] at hv; rcases hv with rfl | rfl <;> rfl) cmpK swoK 50 #[] blk off cap d w eg (orderLays blk off d.size w) hH hblk hsz totK
theorem sortFunc_none (p : Option Addr) (cap : Nat) (fv : Value) (w : World) :
    Calls Try.prog 49 #[.slice p 0 cap, fv] w fun e w' => e = .returned (.tuple #[]) ∧ w' = w :=
  AnyF.slices_SortFunc_none Try.sortK p cap fv w
end Go.Proofs.Ytfclhehpbniapaa
