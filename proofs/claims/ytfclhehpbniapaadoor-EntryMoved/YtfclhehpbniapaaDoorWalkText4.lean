/- Contracts of 'Read' and of a reading's 'Text'. -/
import Derived.Test.YtfclhehpbniapaaDoorWalkRead4
import Derived.Deep.RegionHeld3
namespace Go.Proofs.YtfclhehpbniapaaDoor
open Go.RowKit
set_option linter.unusedVariables false

set_option maxHeartbeats 400000 in
theorem read_octs (v : Value) (zs : List Nat) (w : World) (h : Octs w v zs) (hlen : zs.length ≤ 100000) :
    Calls Tryd.prog 19 #[v] w fun e w' => ∃ p, e = .returned (.pointer (some ⟨p, 0, none⟩)) ∧ IsR w' p ⟨zs, false⟩ ∧ Below w.heap.size w w' ∧ w.heap.size ≤ p := by
  obtain ⟨i0, hi, hz0, hz1, hz2⟩ := info_parts Tryd.infoU8'
  have HO : Hid (Octs w v zs) := h
  obtain ⟨a, cap, rfl⟩ := h.shape
  clear h
  go_enter Tryd.func19, Tryd.ntmps19
  go_wp2_with (at_builtin; refine wpList_append_octs _ rfl _ _ 24 rfl w.heap.size 5 i0 Tryd.underlying24 hi hz0 hz1 hz2 _ 0 [] rfl (World.ownsRow_made _ #[] 0 (Nat.le_refl _) (by decide) rfl) _ zs rfl (HO.out.alloc _) ?d1 ?d2 ?_)
  case d1 => omega
  case d2 => simp
  intro v2 w2 hown2 hg2
  have HB2 : Hid (Below w.heap.size w w2) := ((Below.refl _ _).alloc (Nat.le_refl _) _).trans (below_grown (World.ownsRow_made _ #[] 0 (Nat.le_refl _) (by decide) rfl) hg2 (by simp))
  have HO2 : Hid (Octs w2 v2 zs) := Octs.owned (by simpa using hown2) HO.out.small
  obtain ⟨a2, cap2, rfl⟩ := HO2.out.shape
  clear hown2 hg2
  go_wp2
  go_ret
  exact ⟨_, rfl, ⟨_, heap_alloc_new w2 _, HO2.out.alloc _⟩, HB2.out.alloc HB2.out.size _, HB2.out.size⟩

/-! ### Two octets as a number -/
/-- The number of octets, the least first. -/
def getL : List Nat → Nat
  | [] => 0
  | b :: r => b + 256 * getL r
theorem getN_getL (zs : List Nat) : getN (zs.map Int.ofNat) = (getL zs : Nat) := by
  induction zs with
  | nil => rfl
  | cons z r ih => simp only [List.map_cons, getN, ih, getL, Int.ofNat_eq_natCast]; omega
theorem getL_lt (zs : List Nat) (h : ∀ z ∈ zs, z < 256) : getL zs < 256 ^ zs.length := by
  induction zs with
  | nil => simp [getL]
  | cons z r ih =>
    have h1 := h z (by simp)
    have h2 := ih fun y hy => h y (by simp [hy])
    simp only [getL, List.length_cons, Nat.pow_succ]
    omega
theorem getO_two (zs : List Nat) (h : ∀ z ∈ zs, z < 256) (hl : zs.length ≤ 2) : getO zs = (getL zs : Nat) ∧ getL zs < 65536 := by
  have h1 := getL_lt zs h
  have h2 : (256 : Nat) ^ zs.length ≤ 65536 := by
    have : zs.length = 0 ∨ zs.length = 1 ∨ zs.length = 2 := by omega
    rcases this with e | e | e <;> rw [e] <;> decide
  unfold getO getI
  rw [List.take_of_length_le (by rw [List.length_map]; omega), getN_getL]
  unfold wrap64
  omega

end Go.Proofs.YtfclhehpbniapaaDoor
