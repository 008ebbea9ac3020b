/- The law SuperTurned, walked. -/
import Derived.Test.YtgbibhbmcbbbhaaDoorWalkAwake5
import Derived.Test.YtgbibhbmcbbbhaaDoorOpenSup5
namespace Go.Proofs.YtgbibhbmcbbbhaaDoor
open Go.RowKit
set_option linter.unusedVariables false

theorem rem_at (a : Int) (n : Int) (hn : 0 < n) (hn2 : n ≤ 1000) : ∃ K : Nat, (K : Int) < n ∧ (wrap64 (a.tmod n + n)).tmod n = (K : Int) := by
  have h3 := Int.tmod_lt_of_pos a hn
  have h4 := Int.lt_tmod_of_pos a hn
  have e : wrap64 (a.tmod n + n) = a.tmod n + n := by unfold wrap64; omega
  rw [e]
  have h5 := Int.tmod_nonneg n (show 0 ≤ a.tmod n + n by omega)
  have h6 := Int.tmod_lt_of_pos (a.tmod n + n) hn
  obtain ⟨k, hk⟩ := Int.eq_ofNat_of_zero_le h5
  exact ⟨k, by omega, hk⟩

set_option maxHeartbeats 1000000 in
set_option maxRecDepth 20000 in
theorem superTurned_walk (s : Sup) (a d : Int) (w : World) (ht : Steps w) (hf : s.Fits) (f1 : (Lit.int .i64 a).wf = true) (f2 : (Lit.int .u8 d).wf = true) :
    Calls Tryd.prog 6 #[sval s, .int .i64 a, .int .u8 d] w fun e w' => e = .returned (.bool true) ∧ Below w.heap.size w w' := by
  have HT : Hid (Steps w) := ht
  have HF : Hid s.Fits := hf
  have b2 : 0 ≤ d ∧ d ≤ 255 := by simpa [Lit.wf, IntKind.min, IntKind.max, IntKind.signed, IntKind.bits] using f2
  obtain ⟨y, rfl⟩ := Int.eq_ofNat_of_zero_le b2.1
  obtain ⟨K, hK, hKe⟩ := rem_at a 128 (by decide) (by decide)
  have HY : Hid (y < 256) := by unfold Hid; omega
  clear ht hf f1 f2 b2
  by_cases hok : okS s = true
  · go_enter Tryd.func6, Tryd.ntmps6
    go_wp2_with fail
    refine (awake5 _ (HT.out.alloc _)).mono ?_
    rintro e w1 ⟨rfl, hb1⟩
    have S1 : Hid (SupAt w1 w.heap.size s) := SupAt.same (heap_alloc_new w _) hb1 (by simp)
    have B1 : Hid (Below w.heap.size w w1) := ((Below.refl _ _).alloc (Nat.le_refl _) _).trans (hb1.mono (by simp))
    clear hb1
    obtain ⟨k0, k1, k2, k3, k4, k5, k6, k7⟩ := S1.out.cells
    go_wp2_with fail
    refine (refRight5 s HF.out w1).mono ?_
    rintro e w2 ⟨rfl, hb2⟩
    rw [hok]
    have S2 : Hid (SupAt w2 w.heap.size s) := S1.out.same hb2 S1.out.lt
    have B2 : Hid (Below w.heap.size w w2) := B1.out.trans (hb2.mono B1.out.size)
    clear hb2 k0 k1 k2 k3 k4 k5 k6 k7
    obtain ⟨k0, k1, k2, k3, k4, k5, k6, k7⟩ := S2.out.cells
    go_wp2_with fail
    refine (put_ok s HF.out hok _ (HT.out.below B2.out)).mono ?_
    rintro e w3 ⟨p, rfl, g3, hp, hb3⟩
    have B3 : Hid (Below w.heap.size w w3) := B2.out.trans (hb3.mono B2.out.size)
    have G3 : Hid (w3.heap[p]? = some (.cells (u8s (sect s)).toArray 43 (0, 0))) := g3
    have HP : Hid (w.heap.size ≤ p) := by have := B2.out.size; unfold Hid; omega
    have HL : Hid ((sect s).length = 128) := sect_length s
    have HS : Hid (∀ z ∈ sect s, z < 256) := sect_small s
    have HG : Hid (getS (sect s) = some s) := by unfold Hid getS; rw [if_pos (sect_length s)]; exact toldS_sect s HF.out hok
    have HN : Hid (∀ y < 256, y ≠ (sect s)[K]?.getD 0 → getS ((sect s).set K y) = none) := fun y hy hn => by
      unfold getS
      rw [if_pos (by rw [List.length_set, sect_length])]
      exact turned_told s K y (by omega) hy hn
    clear g3 hb3 k0 k1 k2 k3 k4 k5 k6 k7 hp
    generalize sect s = X at *
    have hKl : K < X.length := by rw [HL.out]; omega
    obtain ⟨x, hx⟩ : ∃ x, X[K]? = some x := ⟨_, List.getElem?_eq_getElem hKl⟩
    have HX : Hid (X[K]? = some x) := hx
    have c3 : w3.cell? ⟨p, K, none⟩ = some (.int .u8 (x : Nat)) := by rw [cell_of_row _ _ _ _ _ _ G3.out, u8s_at, hx]; rfl
    have f3 : w3.frozen? ⟨p, K, none⟩ = false := by simp [World.frozen?, G3.out]
    have G4 : Hid ((w3.setCell ⟨p, K, none⟩ (.int .u8 (y : Nat))).heap[p]? = some (.cells (u8s (X.set K y)).toArray 43 (0, 0))) := by
      have := heap_set_row G3.out K (.int .u8 ((y : Nat) : Int))
      rw [u8s_setA] at this
      exact this
    have B4 : Hid (Below w.heap.size w (w3.setCell ⟨p, K, none⟩ (.int .u8 (y : Nat)))) := B3.out.setCell (p := ⟨p, K, none⟩) HP.out _
    have HO4 : Hid (Octs (w3.setCell ⟨p, K, none⟩ (.int .u8 (y : Nat))) (.slice (some ⟨p, 0, none⟩) 128 128) (X.set K y)) := octs_row0 G4.out (set_small _ _ _ HS.out HY.out) (by rw [List.length_set, HL.out]) (by decide)
    have HGX : Hid (getS (X.set K y) = if y = x then some s else none) := by
      unfold Hid
      by_cases e : y = x
      · subst e
        rw [if_pos rfl, ← HG.out]
        congr 1
        apply List.ext_getElem?
        intro i
        by_cases h : i = K
        · subst h; rw [List.getElem?_set_self hKl, hx]
        · rw [List.getElem?_set_ne (Ne.symm h)]
      · rw [if_neg e]
        exact HN.out y HY.out (by rw [hx]; exact e)
    clear hx
    by_cases hyx : y = x
    · rw [if_pos hyx] at HGX
      have hyx' : (x : Int) = (y : Int) := by omega
      rw [hyx'] at c3
      clear hyx hyx'
      go_wp2_with fail
      refine (get5 _ (X.set K y) _ HO4.out (HT.out.below B4.out)).mono ?_
      rintro e w5 ⟨rfl, hb5⟩
      rw [HGX.out]
      have HV : Hid (toldV (some s) = .tuple #[.agg #[.int .i64 s.gen, .int .i64 s.journal, .int .i64 s.area, .int .i64 s.which, .int .i64 s.len, .int .u32 s.sum, .int .i64 s.epoch, .int .i64 s.start], .bool true]) := rfl
      rw [HV.out]
      have B5 : Hid (Below w.heap.size w w5) := B4.out.trans (hb5.mono B4.out.size)
      clear hb5
      go_wp2
      go_ret
      exact ⟨rfl, B5.out.alloc B5.out.size _⟩
    · rw [if_neg hyx] at HGX
      have hyx1 : ((x : Int) == (y : Int)) = false := by simp; omega
      have hyx2 : ¬ (x : Int) = (y : Int) := by omega
      have hyx3 : ¬ x = y := by omega
      clear hyx
      go_wp2_with fail
      refine (get5 _ (X.set K y) _ HO4.out (HT.out.below B4.out)).mono ?_
      rintro e w5 ⟨rfl, hb5⟩
      rw [HGX.out]
      have HV : Hid (toldV none = .tuple #[.agg #[.int .i64 0, .int .i64 0, .int .i64 0, .int .i64 0, .int .i64 0, .int .u32 0, .int .i64 0, .int .i64 0], .bool false]) := rfl
      rw [HV.out]
      have B5 : Hid (Below w.heap.size w w5) := B4.out.trans (hb5.mono B4.out.size)
      clear hb5
      go_wp2
      go_ret
      exact ⟨rfl, B5.out.alloc B5.out.size _⟩
  · have hok' : okS s = false := by simpa using hok
    go_enter Tryd.func6, Tryd.ntmps6
    go_wp2_with fail
    refine (awake5 _ (HT.out.alloc _)).mono ?_
    rintro e w1 ⟨rfl, hb1⟩
    have S1 : Hid (SupAt w1 w.heap.size s) := SupAt.same (heap_alloc_new w _) hb1 (by simp)
    have B1 : Hid (Below w.heap.size w w1) := ((Below.refl _ _).alloc (Nat.le_refl _) _).trans (hb1.mono (by simp))
    clear hb1
    obtain ⟨k0, k1, k2, k3, k4, k5, k6, k7⟩ := S1.out.cells
    go_wp2_with fail
    refine (refRight5 s HF.out w1).mono ?_
    rintro e w2 ⟨rfl, hb2⟩
    rw [hok']
    have B2 : Hid (Below w.heap.size w w2) := B1.out.trans (hb2.mono B1.out.size)
    clear hb2 k0 k1 k2 k3 k4 k5 k6 k7
    go_wp2_with fail
    refine (awake5 _ (HT.out.below B2.out)).mono ?_
    rintro e w3 ⟨rfl, hb3⟩
    go_wp2
    go_ret
    exact ⟨rfl, B2.out.trans (hb3.mono B2.out.size)⟩
end Go.Proofs.YtgbibhbmcbbbhaaDoor
