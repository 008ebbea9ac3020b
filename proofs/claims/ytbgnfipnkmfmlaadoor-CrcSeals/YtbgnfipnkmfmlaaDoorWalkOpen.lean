/- Contract of 'Open': what was sealed, or none. -/
import Derived.Test.YtbgnfipnkmfmlaaDoorWalkSeal
import Derived.Test.YtbgnfipnkmfmlaaDoorMathTurn
import Derived.Deep.RegionHeld3
namespace Go.Proofs.YtbgnfipnkmfmlaaDoor
open Go.RowKit
set_option linter.unusedVariables false

theorem octs_nil (w : World) : Octs w (.slice none 0 0) [] := ⟨by simp, by simp, none, 0, rfl, by simp, by simp, .inl ⟨rfl, rfl⟩⟩

set_option maxHeartbeats 400000 in
theorem open_short (a : Option Addr) (n cap : Nat) (w : World) (h : n < 4) :
    Calls Tryd.prog 14 #[.slice a n cap] w fun e w' => e = .returned (.tuple #[.slice none 0 0, .bool false]) ∧ Below w.heap.size w w' := by
  have h1 : (n : Int) - 4 < 0 := by omega
  have h2 : decide ((n : Int) - 4 < 0) = true := by simpa using h1
  go_enter Tryd.func14, Tryd.ntmps14
  go_wp2_with fail
  go_region
  all_goals
    go_wp2
    go_ret2
    exact ⟨rfl, (Below.refl _ _).drew⟩

/-- 'Get' of the last four. -/
theorem get_four (b off cap : Nat) (zs : List Nat) (w : World) (hz : ∀ z ∈ zs, z < 256) (hl : zs.length = 4) (hc : OctAt w b off zs) :
    Calls Tryd.prog 19 #[.slice (some ⟨b, off, none⟩) 4 cap] w fun e w' => e = .returned (.int .i64 (numN zs : Nat)) ∧ w' = w := by
  have h := get_any b off cap (zs.map Int.ofNat) w (by
    intro z hz'
    rw [List.mem_map] at hz'
    obtain ⟨y, hy, rfl⟩ := hz'
    have := hz y hy
    simp; omega) (by simp; omega) (by
    intro j hj
    simp at hj
    rw [hc j hj]
    simp [List.getElem?_map, List.getElem?_eq_getElem hj])
  rw [List.length_map, hl] at h
  refine h.mono ?_
  rintro e w' ⟨rfl, rfl⟩
  refine ⟨ret_int ?_, rfl⟩
  match zs, hl, hz with
  | [p, q, r, s], _, hz =>
    have h1 := hz p (by simp)
    have h2 := hz q (by simp)
    have h3 := hz r (by simp)
    have h4 := hz s (by simp)
    simp [getI, getN, numN, wrap64]
    omega

theorem sum_new (w : World) (v : Value) (zs : List Nat) (h : Octs w v zs) (ht : Steps w) :
    Calls Tryd.prog 9 #[.slice (some ⟨w.heap.size, 0, none⟩) 1 1] (w.alloc (.cells #[v] 26)) fun e w' => e = .returned (.int .u32 (crcSum zs : Nat)) ∧ w' = w.alloc (.cells #[v] 26) :=
  sum_one _ v zs _ (cell_new _ _ _ _ _) (h.alloc _) (ht.alloc _)

theorem OctAt.head {w : World} {b off : Nat} {zs ts : List Nat} (h : OctAt w b off (zs ++ ts)) : OctAt w b off zs := by
  intro j hj
  rw [h j (by simp; omega), List.getElem?_append_left hj]
theorem OctAt.tail {w : World} {b off : Nat} {zs ts : List Nat} (h : OctAt w b off (zs ++ ts)) : OctAt w b (off + zs.length) ts := by
  intro j hj
  have := h (zs.length + j) (by simp; omega)
  rw [List.getElem?_append_right (by omega), Nat.add_sub_cancel_left] at this
  rw [Nat.add_assoc]; exact this

set_option maxHeartbeats 1000000 in
theorem open_at (b off cap m : Nat) (zs ts : List Nat) (w : World) (hm : zs.length = m) (hts : ts.length = 4) (hcap : m + 4 ≤ cap) (hcm : cap ≤ maxLen) (hz : ∀ z ∈ zs ++ ts, z < 256) (hb : b < w.heap.size) (hc : OctAt w b off (zs ++ ts)) (hlen : m ≤ 100000) (ht : Steps w) :
    Calls Tryd.prog 14 #[.slice (some ⟨b, off, none⟩) (m + 4) cap] w fun e w' => ∃ v, e = .returned (.tuple #[v, .bool (sealedB (zs ++ ts))]) ∧ Octs w' v (openL (zs ++ ts)) ∧ Below w.heap.size w w' := by
  obtain ⟨i0, hi, hz0, hz1, hz2⟩ := info_parts Tryd.infoU8'
  have HOZ : Hid (∀ w0, Below w.heap.size w w0 → Octs w0 (.slice (some ⟨b, off, none⟩) m cap) zs) := fun w0 hw =>
    ⟨fun z h => hz z (by simp [h]), by omega, _, cap, by rw [hm], by omega, hcm, .inr ⟨_, rfl, .inr ⟨b, off, rfl, Nat.lt_of_lt_of_le hb hw.size, (hc.kept hw hb).head⟩⟩⟩
  have HG : Hid (∀ w0, Below w.heap.size w w0 → Calls Tryd.prog 19 #[.slice (some ⟨b, off + m, none⟩) 4 (cap - m)] w0 fun e w' => e = .returned (.int .i64 (numN ts : Nat)) ∧ w' = w0) := fun w0 hw =>
    get_four b (off + m) (cap - m) ts w0 (fun z h => hz z (by simp [h])) hts (by rw [← hm]; exact (hc.kept hw hb).tail)
  have HS : Hid (∀ w1, Below w.heap.size w w1 → w1.cell? ⟨w.heap.size, 0, none⟩ = some (.slice (some ⟨b, off, none⟩) m cap) → Calls Tryd.prog 9 #[.slice (some ⟨w.heap.size, 0, none⟩) 1 1] w1 fun e w' => e = .returned (.int .u32 (crcSum zs : Nat)) ∧ w' = w1) := fun w1 hw hcell =>
    sum_one _ _ zs w1 hcell ⟨fun z h => hz z (by simp [h]), by omega, _, cap, by rw [hm], by omega, hcm, .inr ⟨_, rfl, .inr ⟨b, off, rfl, Nat.lt_of_lt_of_le hb hw.size, (hc.kept hw hb).head⟩⟩⟩ (ht.below hw)
  have h1 : ¬ (m : Int) < 0 := by omega
  have h2 : decide ((m : Int) < 0) = false := by simp
  have h3 : ¬ cap = m := by omega
  have h4 : ¬ cap = 0 := by omega
  have h5 : (m : Int) ≤ (cap : Int) := by omega
  have h6 : (m : Int) ≤ (m : Int) + 4 := by omega
  have h7 : (0 : Int) ≤ (m : Int) := by omega
  have h8 : m + 4 - m = 4 := by omega
  have hs := crcSum_lt zs (fun z h => hz z (by simp [h]))
  have HZ : Hid (∀ z ∈ zs ++ ts, z < 256) := hz
  have HC : Hid (OctAt w b off (zs ++ ts)) := hc
  have HT : Hid (Steps w) := ht
  have HP : Hid (sealedB (zs ++ ts) = (numN ts == crcSum zs)) := sealedB_parts zs ts hts
  have HQ : Hid ((((numN ts : Nat) : Int) != IntKind.i64.wrap (crcSum zs : Nat)) = !(numN ts == crcSum zs)) := by
    have e : IntKind.i64.wrap ((crcSum zs : Nat) : Int) = (crcSum zs : Nat) := by rw [IntKind.wrap_i64]; omega
    unfold Hid
    rw [e, Bool.eq_iff_iff]
    simp; omega
  clear hz hc ht
  go_enter Tryd.func14, Tryd.ntmps14
  go_wp2_with fail
  go_region_held3 (fun _ => True) (trivial) (first
    | (go_at_call 19; refine (HG.out _ ?_).mono ?_; (first | exact (Below.refl _ _).drew | exact ((Below.refl _ _).alloc (Nat.le_refl _) _).drew); rintro e w' ⟨rfl, rfl⟩)
    | (go_at_call 9; refine (HS.out _ ?_ ?_).mono ?_; exact ((Below.refl _ _).alloc (Nat.le_refl _) _).drew; (· simp); rintro e w' ⟨rfl, rfl⟩))
  all_goals
    rw [HQ.out]
    generalize hW : (w.alloc (.cells #[.slice (some ⟨b, off, none⟩) m cap] 26)).drew = W
    have HB : Hid (Below w.heap.size w W) := by rw [← hW]; exact ((Below.refl _ _).alloc (Nat.le_refl _) _).drew
    have hsz : w.heap.size ≤ W.heap.size := HB.out.size
    clear hW
    cases hq : (numN ts == crcSum zs)
    · have HF : Hid (sealedB (zs ++ ts) = false) := HP.out.trans hq
      clear hq
      go_wp2
      go_ret2
      exact ⟨_, by rw [HF.out]; rfl, by rw [openL_no _ HF.out]; exact octs_nil _, HB.out⟩
    · have HF : Hid (sealedB (zs ++ ts) = true) := HP.out.trans hq
      clear hq
      go_wp2_with (at_builtin; refine wpList_append_octs _ rfl _ _ 26 rfl w.heap.size 5 i0 Tryd.underlying26 hi hz0 hz1 hz2 _ 0 [] rfl (World.ownsRow_made _ #[] 0 hsz (by decide) rfl) _ zs rfl (HOZ.out _ (HB.out.alloc hsz _)) ?d1 ?d2 ?_)
      case d1 => omega
      case d2 => simp; omega
      intro v2 w2 hown2 hg2
      have HO2 : Hid (Octs w2 v2 zs) := Octs.owned hown2 (fun z hz => (HOZ.out _ (Below.refl _ _)).small z hz)
      have HB2 : Hid (Below w.heap.size w w2) := (HB.out.alloc hsz _).trans (below_grown (World.ownsRow_made _ #[] 0 hsz (by decide) rfl) hg2 (by simp; omega))
      clear hown2 hg2
      go_wp2
      go_ret2
      exact ⟨_, by rw [HF.out]; rfl, by rw [openL_parts _ _ hts HF.out]; exact HO2.out, HB2.out⟩

/-- 'Open', of whatever octets. -/
theorem open_octs (a : Option Addr) (cap : Nat) (zs : List Nat) (w : World) (h : Octs w (.slice a zs.length cap) zs) (hlen : zs.length ≤ 100000) (ht : Steps w) :
    Calls Tryd.prog 14 #[.slice a zs.length cap] w fun e w' => ∃ v, e = .returned (.tuple #[v, .bool (sealedB zs)]) ∧ Octs w' v (openL zs) ∧ Below w.heap.size w w' := by
  by_cases h4 : zs.length < 4
  · refine (open_short a zs.length cap w h4).mono ?_
    rintro e w' ⟨rfl, hb⟩
    have hs := sealedB_short zs h4
    exact ⟨_, by rw [hs], by rw [openL_no _ hs]; exact octs_nil _, hb⟩
  · obtain ⟨h1, h2, a', cap', e, h3, hm, h5⟩ := h
    simp only [Value.slice.injEq, true_and] at e
    obtain ⟨rfl, rfl⟩ := e
    rcases h5 with ⟨_, rfl⟩ | ⟨x, rfl, rfl | ⟨b, off, rfl, hlt, hc⟩⟩
    · omega
    · simp at h4
    · have e1 : zs.take (zs.length - 4) ++ zs.drop (zs.length - 4) = zs := List.take_append_drop _ _
      have := open_at b off cap (zs.length - 4) (zs.take (zs.length - 4)) (zs.drop (zs.length - 4)) w (by rw [List.length_take]; omega) (by rw [List.length_drop]; omega) (by omega) hm (by rw [e1]; exact h1) hlt (by rw [e1]; exact hc) (by omega) ht
      rw [e1, show zs.length - 4 + 4 = zs.length by omega] at this
      exact this

theorem open_v (v : Value) (zs : List Nat) (w : World) (h : Octs w v zs) (hlen : zs.length ≤ 100000) (ht : Steps w) :
    Calls Tryd.prog 14 #[v] w fun e w' => ∃ a n cap, e = .returned (.tuple #[.slice a n cap, .bool (sealedB zs)]) ∧ Octs w' (.slice a n cap) (openL zs) ∧ Below w.heap.size w w' := by
  obtain ⟨a, cap, rfl⟩ := h.shape
  refine (open_octs a cap zs w h hlen ht).mono ?_
  rintro e w' ⟨v, rfl, ho, hb⟩
  obtain ⟨a', cap', rfl⟩ := ho.shape
  exact ⟨a', _, cap', rfl, ho, hb⟩
end Go.Proofs.YtbgnfipnkmfmlaaDoor
