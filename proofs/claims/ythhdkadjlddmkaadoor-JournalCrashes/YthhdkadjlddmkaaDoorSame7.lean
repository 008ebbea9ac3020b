/- The document's 'Same': payloads held against texts; a row of texts of the call's own. -/
import Derived.Test.YthhdkadjlddmkaaDoorJrnM
import Derived.Maps.AppendAt
namespace Go.Proofs.YthhdkadjlddmkaaDoor
open Go.RowKit
set_option linter.unusedVariables false

/-- A slice of texts. -/
def Strs (w : World) (v : Value) (ss : List (List Nat)) : Prop :=
  ss.length ≤ 9223372036854775807 ∧ ∃ a cap, v = .slice a ss.length cap ∧ (ss = [] ∨ ∃ b, a = some ⟨b, 0, none⟩ ∧ b < w.heap.size ∧ ∀ j, j < ss.length → w.cell? ⟨b, j, none⟩ = some (.string (strN (ss[j]?.getD []))))
def strVs (ss : List (List Nat)) : List Value := ss.map fun s => Value.string (strN s)
theorem strVs_length (ss : List (List Nat)) : (strVs ss).length = ss.length := by simp [strVs]
theorem strVs_app (a b : List (List Nat)) : strVs (a ++ b) = strVs a ++ strVs b := by simp [strVs]
theorem Strs.owned {w : World} {base : Nat} {v : Value} {n : Nat} {ss : List (List Nat)} (h : w.ownsRow base 9 1 v n (strVs ss)) : Strs w v ss := by
  have h1 := h.1
  rw [strVs_length, Nat.mul_one] at h1
  rcases h.2 with ⟨rfl, h0⟩ | ⟨g, cap, cur, rfl, hb, hg, hn, hm, hs, ht⟩
  · have : ss = [] := List.eq_nil_of_length_eq_zero (by omega)
    subst this
    exact ⟨by simp, none, 0, rfl, .inl rfl⟩
  · refine ⟨by unfold maxLen at hm; omega, _, cap, by rw [h1], .inr ⟨g, rfl, lt_of_heap hg, fun j hj => ?_⟩⟩
    have := h.cells (g := g) rfl j (.string (strN (ss[j]?.getD []))) (by simp [strVs, List.getElem?_map, List.getElem?_eq_getElem hj])
    rw [addr_add] at this
    exact this

set_option maxRecDepth 20000 in
set_option maxHeartbeats 400000 in
theorem same7 (w : World) (lv sv : Value) (ps : List (List Nat)) (h1 : OctRows w lv ps) (h2 : Strs w sv ps) :
    Calls Tryd.prog 18 #[lv, sv] w fun x w' => x = .returned (.bool true) ∧ ∃ m, w' = w.drewN m := by
  obtain ⟨hl, a, cap, rfl, hr⟩ := h1
  obtain ⟨_, a2, cap2, rfl, hr2⟩ := h2
  obtain ⟨n, hn⟩ : ∃ n, n = ps.length := ⟨_, rfl⟩
  have HR : Hid (ps = [] ∨ ∃ b off, a = some ⟨b, off, none⟩ ∧ b < w.heap.size ∧ ∀ j, j < ps.length → ∃ u, w.cell? ⟨b, off + j, none⟩ = some u ∧ Octs w u (ps[j]?.getD [])) := hr
  have HR2 : Hid (ps = [] ∨ ∃ b, a2 = some ⟨b, 0, none⟩ ∧ b < w.heap.size ∧ ∀ j, j < ps.length → w.cell? ⟨b, j, none⟩ = some (.string (strN (ps[j]?.getD [])))) := hr2
  have HN : Hid (n = ps.length) := hn
  rw [← hn] at hl ⊢
  clear hr hr2 hn
  go_enter Tryd.func18, Tryd.ntmps18
  go_wp2_with fail
  go_loopw [5] (fun i wr => ∃ k m : Nat, k ≤ n ∧ i = .int .i64 k ∧ wr = w.drewN m) (fun i _ => n - (intOf i).toNat)
  case atStart => exact ⟨0, 0, by omega, rfl, rfl⟩
  case round =>
    obtain ⟨k, m, hk, rfl, rfl⟩ := hrel
    by_cases hlt : k < n
    · have hne : ps ≠ [] := fun e => by have := HN.out; rw [e] at this; simp at this; omega
      have hlj : ((k : Nat) : Int) < (n : Nat) := by omega
      rcases HR.out with e | ⟨b, off, rfl, hb, hat⟩
      · exact absurd e hne
      rcases HR2.out with e | ⟨b2, rfl, hb2, hat2⟩
      · exact absurd e hne
      obtain ⟨u, hu, hou⟩ := hat k (by rw [← HN.out]; exact hlt)
      have hs := hat2 k (by rw [← HN.out]; exact hlt)
      obtain ⟨zs, hzs⟩ : ∃ zs, zs = ps[k]?.getD [] := ⟨_, rfl⟩
      rw [← hzs] at hou hs
      have hcv : ∀ i, (convert 32 9 u).run Tryd.prog (w.drewN i) = .ok (.string (strN zs)) (w.drewN i) := fun i => conv_octs (Octs.kept hou (below_drewN7 w i)) _ 5 _ Tryd.underlying32 Tryd.underlying5 Tryd.underlying9
      have c1 : ∀ i, (w.drewN i).cell? ⟨b, off + k, none⟩ = some u := fun i => hu
      have c2 : ∀ i, (w.drewN i).cell? ⟨b2, k, none⟩ = some (.string (strN zs)) := fun i => hs
      obtain ⟨ua, uc, hush⟩ := hou.shape
      obtain ⟨ul, hul⟩ : ∃ ul, ul = zs.length := ⟨_, rfl⟩
      rw [← hul] at hush
      subst hush
      clear hat hat2 hu hs hzs hou hne hul
      generalize strN zs = t at *
      go_wp2_with fail
      go_quiet (fail)
      go_wp2
      go_roundw
      case rel => exact ⟨k + 1, _, by omega, by go_num, rfl⟩
      case measure => simp [intOf]; omega
    · have hle : ¬ ((k : Nat) : Int) < (n : Nat) := by omega
      go_wp2
      go_ret
      exact ⟨rfl, m, rfl⟩
end Go.Proofs.YthhdkadjlddmkaaDoor
