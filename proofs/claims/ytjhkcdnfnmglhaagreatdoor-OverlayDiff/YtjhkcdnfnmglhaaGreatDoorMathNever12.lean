/- What is committed stays, and no slot of it is given: in plain lists. -/
import Derived.Test.YtjhkcdnfnmglhaaGreatDoorInv12
namespace Go.Proofs.YtjhkcdnfnmglhaaGreatDoor
open Go.RowKit
set_option linter.unusedVariables false
set_option maxRecDepth 20000

theorem committed_find {O : Ov} {t : Int} (h : OvOk O t) (x : Ky) : findM (committedO O) x = (findM O.was x).or (findM O.base x) := find_or h.rw x
theorem committed_retire {O : Ov} {t : Int} (h : OvOk O t) (k : Ky) : committedO (retireO O k) = committedO O := by
  have hr := retire_ok h k
  refine rise_ext (rise_apply _ _ _) (rise_apply _ _ _) fun x => ?_
  show findM (committedO (retireO O k)) x = findM (committedO O) x
  rw [committed_find hr, committed_find h, retire_was, retire_base]
  by_cases q : x = k
  · subst q
    rw [if_pos rfl, if_pos rfl, Option.or_none]
    rcases base_was h x with hb | hw
    · rw [hb, Option.none_or, Option.or_none]
    · rw [hw, Option.or_none, Option.none_or]
  · rw [if_neg q, if_neg q]
theorem committed_put {O O' : Ov} {t : Int} {k : Ky} {x : Ent} {err : Int} (h : OvOk O t) (hp : PutRel O k O' x err) : committedO O' = committedO O := by
  rcases hp with ⟨_, rfl, _⟩ | ⟨_, e, _, rfl, _⟩ | ⟨_, _, _, rfl, _⟩ | ⟨_, _, s, _, rfl, _⟩
  · rfl
  · rfl
  · rfl
  · exact committed_retire h k
theorem committed_drop {O : Ov} {t : Int} (h : OvOk O t) (k : Ky) : committedO (dropO O k).1 = committedO O := by
  unfold dropO
  cases hf : findM O.fresh k with
  | none => exact committed_retire h k
  | some e => exact committed_retire (cutF_ok h hf) k
theorem committed_sum (O : Ov) (k : Ky) (u : Nat) : committedO (sumO O k u).1 = committedO O := by
  unfold sumO
  cases findM O.fresh k <;> rfl
/-- A committed page is in base or in was. -/
theorem committed_has {O : Ov} {t : Int} (h : OvOk O t) {m : Md} (hm : m ∈ committedO O) : ∃ c, c < 2 ∧ O.Has c m.k (m.s, m.g, m.u) := by
  have h1 := mem_find (rise_apply O.base O.was []).nodup hm
  have h2 : (findM O.was m.k).or (findM O.base m.k) = some (m.s, m.g, m.u) := by rw [← committed_find h]; exact h1
  cases hw : findM O.was m.k with
  | some e =>
    rw [hw, Option.some_or, Option.some.injEq] at h2
    exact ⟨1, by decide, by decide, by rw [← h2]; exact hw⟩
  | none =>
    rw [hw, Option.none_or] at h2
    exact ⟨0, by decide, by decide, h2⟩
theorem put_apart {O O' : Ov} {t : Int} {k : Ky} {x : Ent} (h : OvOk O t) (hp : PutRel O k O' x 0) {m : Md} (hm : m ∈ committedO O) : m.s ≠ x.1 := by
  obtain ⟨c, hc, hh⟩ := committed_has h hm
  rcases hp with ⟨_, _, _, e⟩ | ⟨_, e, hf, _, rfl, _⟩ | ⟨_, _, _, _, _, e⟩ | ⟨_, _, s, hs, _, rfl, _⟩
  · cases e
  · intro he
    have := (h.one c m.k _ 2 k e hh ⟨by decide, hf⟩ he).1
    omega
  · cases e
  · intro he
    have hb : O.B s = true := (h.taken s).2 ⟨c, m.k, _, hh, he⟩
    rw [hs.free] at hb
    cases hb
/-- A row of which nothing is the overlay's stays. -/
theorem Els.ov {α : Type} {enc : α → List Value} {K : Nat} {w w' : World} {s : OvB} {v : Value} {xs : List α} (h : Els enc K w v xs) (hs : OvStep s w w') (hu : ∀ g, v.ownBlock = some g → g ≠ s.b ∧ g ≠ s.f ∧ g ≠ s.X ∧ g ≠ s.Y ∧ g ≠ s.Z) : Els enc K w' v xs :=
  h.spared hs.size fun g hg hlt => hs.heap hlt (hu g hg)
theorem own_off {w : World} {q : Nat} {s : OvB} {O : Ov} (h : OvAt w q s O) {v : Value} (hv : ∀ g, v.ownBlock = some g → w.heap.size ≤ g) : ∀ g, v.ownBlock = some g → g ≠ s.b ∧ g ≠ s.f ∧ g ≠ s.X ∧ g ≠ s.Y ∧ g ≠ s.Z := fun g hg => by
  have h0 := hv g hg
  have h1 := h.lts (i := s.b) (by simp)
  have h2 := h.lts (i := s.f) (by simp)
  have h3 := h.lts (i := s.X) (by simp)
  have h4 := h.lts (i := s.Y) (by simp)
  have h5 := h.lts (i := s.Z) (by simp)
  omega
end Go.Proofs.YtjhkcdnfnmglhaaGreatDoor
