/- Some texts of mine, one behind the other (joined by program). -/
import Derived.Test.YtjhkcdnfnmglhaaGreatDoorJ5
import Derived.Test.YtjhkcdnfnmglhaaGreatDoorJ1
import Derived.Maps.RangeWalk
import Derived.Shelf.SortM.Plain
import Derived.Shelf.SortM.SortNone
import Derived.Test.YtjhkcdnfnmglhaaGreatDoorProg
import Derived.Shelf.SlSortCmp.NoneTotal
import Derived.Test.YtjhkcdnfnmglhaaGreatDoorJ2
import Derived.Test.YtjhkcdnfnmglhaaGreatDoorJ3
import Derived.Shelf.SlSortCmp.QuietGrown
import Derived.Sort.OwnSortedInts

/- An overlay in plain lists: what is there behind each call. No Go in sight but the lists of layer 11 and the board of layer 9. -/
namespace Go.Proofs.YtjhkcdnfnmglhaaGreatDoor
open Go.RowKit
set_option linter.unusedVariables false
set_option maxRecDepth 20000

/-! ### Lists by rising keys -/
def Rise (l : List Md) : Prop := (l.map Md.k).Pairwise KLt
theorem Rise.nodup {l : List Md} (h : Rise l) : (l.map Md.k).Nodup := rises_nodup h
theorem Rise.nil : Rise [] := by simp [Rise]
theorem isSome_find {x : Ky} : ∀ {l : List Md}, (findM l x).isSome = decide (x ∈ l.map Md.k)
  | [] => rfl
  | m :: r => by
    unfold findM
    by_cases e : m.k = x
    · rw [if_pos e, e.symm]
      simp
    · rw [if_neg e, isSome_find]
      have : ¬ x = m.k := fun e' => e e'.symm
      simp [this]
theorem find_in {l : List Md} {x : Ky} (h : x ∈ l.map Md.k) : ∃ e, findM l x = some e := by
  have := isSome_find (l := l) (x := x)
  rw [decide_eq_true h] at this
  exact Option.isSome_iff_exists.1 this
theorem find_out {l : List Md} {x : Ky} : findM l x = none ↔ x ∉ l.map Md.k := by
  have := isSome_find (l := l) (x := x)
  cases hf : findM l x with
  | none =>
    rw [hf] at this
    simp only [Option.isSome_none] at this
    exact ⟨fun _ h => (by rw [decide_eq_true h] at this; cases this), fun _ => rfl⟩
  | some e =>
    rw [hf] at this
    simp only [Option.isSome_some] at this
    have h1 : x ∈ l.map Md.k := of_decide_eq_true this.symm
    exact ⟨fun h => (by cases h), fun h => absurd h1 h⟩
def md (k : Ky) (e : Ent) : Md := ⟨k.1, k.2, e.1, e.2.1, e.2.2⟩
theorem md_k (k : Ky) (e : Ent) : (md k e).k = k := rfl
theorem md_self (m : Md) : md m.k (m.s, m.g, m.u) = m := rfl
theorem find_mem {l : List Md} {x : Ky} {e : Ent} (h : findM l x = some e) : md x e ∈ l := by
  induction l with
  | nil => cases h
  | cons m r ih =>
    unfold findM at h
    split at h
    · rename_i hk
      injection h with h
      subst h hk
      exact .head _
    · exact .tail _ (ih h)
theorem mem_find {l : List Md} (hn : (l.map Md.k).Nodup) {m : Md} (h : m ∈ l) : findM l m.k = some (m.s, m.g, m.u) := by
  induction l with
  | nil => cases h
  | cons a r ih =>
    rw [List.map_cons, List.nodup_cons] at hn
    unfold findM
    rcases List.mem_cons.1 h with e | e
    · subst e
      rw [if_pos rfl]
    · have : a.k ≠ m.k := fun e' => hn.1 (by rw [e']; exact List.mem_map_of_mem e)
      rw [if_neg this]
      exact ih hn.2 e
theorem list_is {l : List Md} (hn : (l.map Md.k).Nodup) : l = (l.map Md.k).map fun k => md k ((findM l k).getD (0, 0, 0)) := by
  rw [List.map_map]
  conv => lhs; rw [← List.map_id l]
  apply List.map_congr_left
  intro m hm
  simp only [Function.comp, mem_find hn hm, Option.getD_some]
  rfl
/-- Two lists by rising keys that find alike are one. -/
theorem rise_ext {l m : List Md} (hl : Rise l) (hm : Rise m) (h : ∀ k, findM l k = findM m k) : l = m := by
  have hk : l.map Md.k = m.map Md.k := rises_same hl hm fun k => by
    have h1 := isSome_find (l := l) (x := k)
    have h2 := isSome_find (l := m) (x := k)
    rw [h k, h2] at h1
    by_cases e : k ∈ l.map Md.k
    · rw [decide_eq_true e] at h1
      exact ⟨fun _ => of_decide_eq_true h1, fun _ => e⟩
    · rw [decide_eq_false e] at h1
      exact ⟨fun e' => absurd e' e, fun e' => absurd e' (of_decide_eq_false h1)⟩
  rw [list_is hl.nodup, list_is hm.nodup, hk]
  apply List.map_congr_left
  intro k _
  rw [h k]
theorem keys_apply (l puts : List Md) (gone : List Ky) : (applyM l puts gone).map Md.k = sortR (keysA l puts gone) := by
  unfold applyM
  rw [List.map_map]
  exact List.map_id' _
theorem rise_apply (l puts : List Md) (gone : List Ky) : Rise (applyM l puts gone) := by
  unfold Rise
  rw [keys_apply]
  exact sortR_rises _
theorem find_map {l puts : List Md} {x : Ky} : ∀ (T : List Ky), findM (T.map (mdA l puts)) x = if x ∈ T then some (entA l puts x) else none
  | [] => rfl
  | k :: r => by
    rw [List.map_cons]
    unfold findM
    by_cases e : k = x
    · subst e
      rw [if_pos (show (mdA l puts k).k = k from rfl), if_pos (.head _)]
      rfl
    · rw [if_neg (show ¬ (mdA l puts k).k = x from e), find_map r]
      have : ¬ x = k := fun e' => e e'.symm
      simp [this]
theorem find_apply {l puts : List Md} {gone : List Ky} (hp : (puts.map Md.k).Nodup) (x : Ky) :
    findM (applyM l puts gone) x = if x ∈ puts.map Md.k then findM puts x else if x ∈ gone then none else findM l x := by
  have hm : x ∈ sortR (keysA l puts gone) ↔ (x ∈ l.map Md.k ∧ x ∉ gone) ∨ x ∈ puts.map Md.k := by
    rw [sortR_mem, keysA, List.mem_append, stayK, List.mem_filter]
    simp [hasK]
  unfold applyM
  rw [find_map]
  unfold entA
  rw [fold_find puts _ hp]
  by_cases h1 : x ∈ puts.map Md.k
  · obtain ⟨e, he⟩ := find_in h1
    rw [if_pos (hm.2 (.inr h1)), if_pos h1, he]
    rfl
  · rw [if_neg h1, find_out.2 h1]
    by_cases h2 : x ∈ gone
    · rw [if_pos h2, if_neg (fun h => (hm.1 h).elim (fun h => h.2 h2) h1)]
    · rw [if_neg h2]
      by_cases h3 : x ∈ l.map Md.k
      · obtain ⟨e, he⟩ := find_in h3
        rw [if_pos (hm.2 (.inl ⟨h3, h2⟩)), he]
        rfl
      · rw [if_neg (fun h => (hm.1 h).elim (fun h => h3 h.1) h1), find_out.2 h3]
theorem apply_self {l : List Md} (h : Rise l) : applyM l [] [] = l := rise_ext (rise_apply _ _ _) h fun k => by
  rw [find_apply (by simp)]
  simp
def putL (l : List Md) (k : Ky) (e : Ent) : List Md := applyM l [md k e] []
def cutL (l : List Md) (k : Ky) : List Md := applyM l [] [k]
theorem rise_put (l : List Md) (k : Ky) (e : Ent) : Rise (putL l k e) := rise_apply _ _ _
theorem rise_cut (l : List Md) (k : Ky) : Rise (cutL l k) := rise_apply _ _ _
theorem find_put (l : List Md) (k : Ky) (e : Ent) (x : Ky) : findM (putL l k e) x = if x = k then some e else findM l x := by
  unfold putL
  rw [find_apply (by simp)]
  by_cases h : x = k
  · subst h
    simp [md_k, findM]
    rfl
  · simp [md_k, h]
theorem find_cut (l : List Md) (k : Ky) (x : Ky) : findM (cutL l k) x = if x = k then none else findM l x := by
  unfold cutL
  rw [find_apply (by simp)]
  simp

/-! ### An overlay -/
structure Ov where
  n : Nat
  B : Nat → Bool
  base : List Md
  was : List Md
  fresh : List Md
/-- The list of one part: 0 base, 1 was, else fresh. -/
def Ov.part (O : Ov) : Nat → List Md
  | 0 => O.base
  | 1 => O.was
  | _ => O.fresh
/-- A part has an entry for a key. -/
def Ov.Has (O : Ov) (c : Nat) (k : Ky) (e : Ent) : Prop := c < 3 ∧ findM (O.part c) k = some e
structure OvOk (O : Ov) (top : Int) : Prop where
  n1 : 1 ≤ O.n
  n2 : O.n ≤ 65536
  rb : Rise O.base
  rw : Rise O.was
  rf : Rise O.fresh
  tail : ∀ i, O.n ≤ i → O.B i = false
  one : ∀ c k e c' k' e', O.Has c k e → O.Has c' k' e' → e.1 = e'.1 → c = c' ∧ k = k'
  taken : ∀ i : Nat, O.B i = true ↔ ∃ c k e, O.Has c k e ∧ e.1 = (i : Int)
  range : ∀ c k e, O.Has c k e → ∃ s : Nat, e.1 = (s : Int) ∧ s < O.n
  apart : ∀ k e, findM O.base k = some e → findM O.was k = none ∧ findM O.fresh k = none
  fit : ∀ c k e, O.Has c k e → isR k = true ∧ 1 ≤ e.2.1 ∧ e.2.1 ≤ top ∧ e.2.2 < 4294967296
theorem OvOk.more {O : Ov} {t t' : Int} (h : OvOk O t) (ht : t ≤ t') : OvOk O t' :=
  { h with fit := fun c k e hh => by have := h.fit c k e hh; exact ⟨this.1, this.2.1, Int.le_trans this.2.2.1 ht, this.2.2.2⟩ }

/-! #### What a key has in base goes to was -/
def retireO (O : Ov) (k : Ky) : Ov := match findM O.base k with
  | some e => { O with was := putL O.was k e, base := cutL O.base k }
  | none => O
theorem retire_none {O : Ov} {k : Ky} (h : findM O.base k = none) : retireO O k = O := by unfold retireO; rw [h]
theorem retire_some {O : Ov} {k : Ky} {e : Ent} (h : findM O.base k = some e) : retireO O k = { O with was := putL O.was k e, base := cutL O.base k } := by unfold retireO; rw [h]
theorem retire_base (O : Ov) (k x : Ky) : findM (retireO O k).base x = if x = k then none else findM O.base x := by
  cases h : findM O.base k with
  | none =>
    rw [retire_none h]
    by_cases e : x = k
    · rw [if_pos e, e, h]
    · rw [if_neg e]
  | some e => rw [retire_some h]; exact find_cut _ _ _
theorem retire_was (O : Ov) (k x : Ky) : findM (retireO O k).was x = if x = k then (findM O.base k).or (findM O.was k) else findM O.was x := by
  cases h : findM O.base k with
  | none =>
    rw [retire_none h]
    by_cases e : x = k
    · rw [if_pos e, e]; rfl
    · rw [if_neg e]
  | some e =>
    rw [retire_some h]
    show findM (putL O.was k e) x = _
    rw [find_put]
    rfl
theorem retire_fresh (O : Ov) (k : Ky) : (retireO O k).fresh = O.fresh := by
  cases h : findM O.base k with
  | none => rw [retire_none h]
  | some e => rw [retire_some h]
theorem retire_n (O : Ov) (k : Ky) : (retireO O k).n = O.n ∧ (retireO O k).B = O.B := by
  cases h : findM O.base k with
  | none => rw [retire_none h]; exact ⟨rfl, rfl⟩
  | some e => rw [retire_some h]; exact ⟨rfl, rfl⟩
/-- Where an entry of the new one was. -/
theorem retire_has {O : Ov} {k : Ky} (ha : findM O.base k = none ∨ findM O.was k = none) {c : Nat} {x : Ky} {e : Ent} (h : (retireO O k).Has c x e) : ∃ c0, O.Has c0 x e ∧ (c0 = c ∨ (x = k ∧ c0 = 0 ∧ c = 1)) ∧ (x = k → c ≠ 0) := by
  obtain ⟨hc, h⟩ := h
  match c, hc, h with
  | 0, hc, h =>
    have h' : findM (retireO O k).base x = some e := h
    rw [retire_base] at h'
    split at h'
    · cases h'
    · rename_i hx
      exact ⟨0, ⟨hc, h'⟩, .inl rfl, fun e' => absurd e' hx⟩
  | 1, hc, h =>
    have h' : findM (retireO O k).was x = some e := h
    rw [retire_was] at h'
    split at h'
    · rename_i hx
      subst hx
      cases hb : findM O.base x with
      | none =>
        rw [hb] at h'
        exact ⟨1, ⟨hc, h'⟩, .inl rfl, fun _ => by decide⟩
      | some e0 =>
        rw [hb] at h'
        simp only [Option.some_or, Option.some.injEq] at h'
        subst h'
        exact ⟨0, ⟨by decide, hb⟩, .inr ⟨rfl, rfl, rfl⟩, fun _ => by decide⟩
    · exact ⟨1, ⟨hc, h'⟩, .inl rfl, fun _ => by decide⟩
  | 2, hc, h =>
    have h' : findM (retireO O k).fresh x = some e := h
    rw [retire_fresh] at h'
    exact ⟨2, ⟨hc, h'⟩, .inl rfl, fun _ => by decide⟩
  | c + 3, hc, h => omega
theorem has_retire {O : Ov} {k : Ky} (ha : findM O.base k = none ∨ findM O.was k = none) {c : Nat} {x : Ky} {e : Ent} (h : O.Has c x e) : ∃ c', (retireO O k).Has c' x e := by
  obtain ⟨hc, h⟩ := h
  match c, hc, h with
  | 0, hc, h =>
    have h' : findM O.base x = some e := h
    by_cases hx : x = k
    · subst hx
      refine ⟨1, by decide, ?_⟩
      show findM (retireO O x).was x = _
      rw [retire_was, if_pos rfl, h']
      rfl
    · refine ⟨0, by decide, ?_⟩
      show findM (retireO O k).base x = _
      rw [retire_base, if_neg hx, h']
  | 1, hc, h =>
    have h' : findM O.was x = some e := h
    refine ⟨1, by decide, ?_⟩
    show findM (retireO O k).was x = _
    rw [retire_was]
    by_cases hx : x = k
    · subst hx
      rw [if_pos rfl]
      rcases ha with h1 | h1
      · rw [h1, h']; rfl
      · rw [h1] at h'; cases h'
    · rw [if_neg hx, h']
  | 2, hc, h =>
    have h' : findM O.fresh x = some e := h
    refine ⟨2, by decide, ?_⟩
    show findM (retireO O k).fresh x = _
    rw [retire_fresh, h']
  | c + 3, hc, h => omega
theorem base_was {O : Ov} {t : Int} (h : OvOk O t) (k : Ky) : findM O.base k = none ∨ findM O.was k = none := by
  cases hb : findM O.base k with
  | none => exact .inl rfl
  | some e => exact .inr (h.apart k e hb).1
theorem retire_ok {O : Ov} {t : Int} (h : OvOk O t) (k : Ky) : OvOk (retireO O k) t where
  n1 := by rw [(retire_n O k).1]; exact h.n1
  n2 := by rw [(retire_n O k).1]; exact h.n2
  rb := by cases hb : findM O.base k with
    | none => rw [retire_none hb]; exact h.rb
    | some e => rw [retire_some hb]; exact rise_cut _ _
  rw := by cases hb : findM O.base k with
    | none => rw [retire_none hb]; exact h.rw
    | some e => rw [retire_some hb]; exact rise_put _ _ _
  rf := by rw [retire_fresh]; exact h.rf
  tail := by rw [(retire_n O k).1, (retire_n O k).2]; exact h.tail
  one := by
    intro c x e c' x' e' h1 h2 he
    obtain ⟨c0, g1, q1, r1⟩ := retire_has (base_was h k) h1
    obtain ⟨c1, g2, q2, r2⟩ := retire_has (base_was h k) h2
    obtain ⟨hc, hx⟩ := h.one _ _ _ _ _ _ g1 g2 he
    subst hc hx
    refine ⟨?_, rfl⟩
    rcases q1 with q1 | ⟨qx, q1, q1'⟩
    · rcases q2 with q2 | ⟨qx, q2, q2'⟩
      · omega
      · have := r1 qx
        omega
    · rcases q2 with q2 | ⟨_, q2, q2'⟩
      · have := r2 qx
        omega
      · omega
  taken := by
    intro i
    rw [(retire_n O k).2, h.taken]
    constructor
    · rintro ⟨c, x, e, h1, h2⟩
      obtain ⟨c', h3⟩ := has_retire (base_was h k) h1
      exact ⟨c', x, e, h3, h2⟩
    · rintro ⟨c, x, e, h1, h2⟩
      obtain ⟨c0, h3, _, _⟩ := retire_has (base_was h k) h1
      exact ⟨c0, x, e, h3, h2⟩
  range := by
    intro c x e h1
    obtain ⟨c0, h3, _, _⟩ := retire_has (base_was h k) h1
    rw [(retire_n O k).1]
    exact h.range _ _ _ h3
  apart := by
    intro x e h1
    rw [retire_base] at h1
    split at h1
    · cases h1
    · rename_i hx
      rw [retire_was, if_neg hx, retire_fresh]
      exact h.apart x e h1
  fit := by
    intro c x e h1
    obtain ⟨c0, h3, _, _⟩ := retire_has (base_was h k) h1
    exact h.fit _ _ _ h3
end Go.Proofs.YtjhkcdnfnmglhaaGreatDoor

/- An overlay in plain lists: Put, Sum, Drop, Commit keep what holds of it. -/
namespace Go.Proofs.YtjhkcdnfnmglhaaGreatDoor
open Go.RowKit
set_option linter.unusedVariables false
set_option maxRecDepth 20000

theorem part2 (O : Ov) : O.part 2 = O.fresh := rfl
/-! ### An entry of fresh turned, in its own slot -/
def setF (O : Ov) (k : Ky) (e : Ent) : Ov := { O with fresh := putL O.fresh k e }
theorem setF_has {O : Ov} {k : Ky} {e0 e' : Ent} (h0 : findM O.fresh k = some e0) (hs : e'.1 = e0.1) {c : Nat} {x : Ky} {e : Ent} (h : (setF O k e').Has c x e) : ∃ e1, O.Has c x e1 ∧ e1.1 = e.1 ∧ (e = e1 ∨ (x = k ∧ e = e')) := by
  obtain ⟨hc, h⟩ := h
  match c, hc, h with
  | 0, hc, h => exact ⟨e, ⟨hc, h⟩, rfl, .inl rfl⟩
  | 1, hc, h => exact ⟨e, ⟨hc, h⟩, rfl, .inl rfl⟩
  | 2, hc, h =>
    have h' : findM (putL O.fresh k e') x = some e := h
    rw [find_put] at h'
    split at h'
    · rename_i hx
      injection h' with h'
      subst hx h'
      exact ⟨e0, ⟨hc, h0⟩, hs.symm, .inr ⟨rfl, rfl⟩⟩
    · exact ⟨e, ⟨hc, h'⟩, rfl, .inl rfl⟩
  | c + 3, hc, h => omega
theorem has_setF {O : Ov} {k : Ky} {e0 e' : Ent} (h0 : findM O.fresh k = some e0) (hs : e'.1 = e0.1) {c : Nat} {x : Ky} {e : Ent} (h : O.Has c x e) : ∃ e1, (setF O k e').Has c x e1 ∧ e1.1 = e.1 := by
  obtain ⟨hc, h⟩ := h
  match c, hc, h with
  | 0, hc, h => exact ⟨e, ⟨hc, h⟩, rfl⟩
  | 1, hc, h => exact ⟨e, ⟨hc, h⟩, rfl⟩
  | 2, hc, h =>
    have h' : findM O.fresh x = some e := h
    by_cases hx : x = k
    · subst hx
      refine ⟨e', ⟨hc, ?_⟩, ?_⟩
      · show findM (putL O.fresh x e') x = _
        rw [find_put, if_pos rfl]
      · rw [h0, Option.some.injEq] at h'
        rw [hs, h']
    · refine ⟨e, ⟨hc, ?_⟩, rfl⟩
      show findM (putL O.fresh k e') x = _
      rw [find_put, if_neg hx, h']
  | c + 3, hc, h => omega
theorem setF_ok {O : Ov} {t t' : Int} (h : OvOk O t) (ht : t ≤ t') {k : Ky} {e0 e' : Ent} (h0 : findM O.fresh k = some e0) (hs : e'.1 = e0.1) (hg : 1 ≤ e'.2.1 ∧ e'.2.1 ≤ t' ∧ e'.2.2 < 4294967296) : OvOk (setF O k e') t' where
  n1 := h.n1
  n2 := h.n2
  rb := h.rb
  rw := h.rw
  rf := rise_put _ _ _
  tail := h.tail
  one := by
    intro c x e c' x' e2 h1 h2 he
    obtain ⟨a, ha, q1, _⟩ := setF_has h0 hs h1
    obtain ⟨b, hb, q2, _⟩ := setF_has h0 hs h2
    exact h.one _ _ _ _ _ _ ha hb (q1.trans (he.trans q2.symm))
  taken := by
    intro i
    show O.B i = true ↔ _
    rw [h.taken]
    constructor
    · rintro ⟨c, x, e, h1, h2⟩
      obtain ⟨a, ha, q⟩ := has_setF h0 hs h1
      exact ⟨c, x, a, ha, q.trans h2⟩
    · rintro ⟨c, x, e, h1, h2⟩
      obtain ⟨a, ha, q, _⟩ := setF_has h0 hs h1
      exact ⟨c, x, a, ha, q.trans h2⟩
  range := by
    intro c x e h1
    obtain ⟨a, ha, q, _⟩ := setF_has h0 hs h1
    obtain ⟨s, h2, h3⟩ := h.range _ _ _ ha
    exact ⟨s, q.symm.trans h2, h3⟩
  apart := by
    intro x e h1
    have h2 := h.apart x e h1
    refine ⟨h2.1, ?_⟩
    show findM (putL O.fresh k e') x = none
    rw [find_put, if_neg, h2.2]
    intro hx
    subst hx
    rw [h0] at h2
    cases h2.2
  fit := by
    intro c x e h1
    obtain ⟨a, ha, q, q2⟩ := setF_has h0 hs h1
    have h2 := h.fit _ _ _ ha
    rcases q2 with rfl | ⟨rfl, rfl⟩
    · exact ⟨h2.1, h2.2.1, Int.le_trans h2.2.2.1 ht, h2.2.2.2⟩
    · exact ⟨h2.1, hg⟩

/-! ### A new entry of fresh -/
def addF (O : Ov) (k : Ky) (s : Nat) (g : Int) (u : Nat) : Ov := { O with B := putB O.B s 1 true, fresh := putL O.fresh k ((s : Int), g, u) }
theorem addF_has {O : Ov} {k : Ky} {s : Nat} {g : Int} {u : Nat} {c : Nat} {x : Ky} {e : Ent} (h : (addF O k s g u).Has c x e) : O.Has c x e ∨ (c = 2 ∧ x = k ∧ e = ((s : Int), g, u)) := by
  obtain ⟨hc, h⟩ := h
  match c, hc, h with
  | 0, hc, h => exact .inl ⟨hc, h⟩
  | 1, hc, h => exact .inl ⟨hc, h⟩
  | 2, hc, h =>
    have h' : findM (putL O.fresh k ((s : Int), g, u)) x = some e := h
    rw [find_put] at h'
    split at h'
    · rename_i hx
      injection h' with h'
      exact .inr ⟨rfl, hx, h'.symm⟩
    · exact .inl ⟨hc, h'⟩
  | c + 3, hc, h => omega
theorem has_addF {O : Ov} {k : Ky} {s : Nat} {g : Int} {u : Nat} (h0 : findM O.fresh k = none) {c : Nat} {x : Ky} {e : Ent} (h : O.Has c x e) : (addF O k s g u).Has c x e := by
  obtain ⟨hc, h⟩ := h
  match c, hc, h with
  | 0, hc, h => exact ⟨hc, h⟩
  | 1, hc, h => exact ⟨hc, h⟩
  | 2, hc, h =>
    have h' : findM O.fresh x = some e := h
    refine ⟨hc, ?_⟩
    show findM (putL O.fresh k _) x = _
    rw [find_put, if_neg, h']
    intro hx
    rw [hx, h0] at h'
    cases h'
  | c + 3, hc, h => omega
theorem addF_new (O : Ov) (k : Ky) (s : Nat) (g : Int) (u : Nat) : (addF O k s g u).Has 2 k ((s : Int), g, u) := ⟨by decide, by show findM (putL O.fresh k _) k = _; rw [find_put, if_pos rfl]⟩
theorem free_not {O : Ov} {t : Int} (h : OvOk O t) {s : Nat} (hs : O.B s = false) {c : Nat} {x : Ky} {e : Ent} (h1 : O.Has c x e) : e.1 ≠ (s : Int) := fun he => by
  have := (h.taken s).2 ⟨c, x, e, h1, he⟩
  rw [hs] at this
  cases this
theorem addF_ok {O : Ov} {t t' : Int} (h : OvOk O t) (ht : t ≤ t') {k : Ky} {s : Nat} {g : Int} {u : Nat} (h0 : findM O.fresh k = none) (hb : findM O.base k = none) (hs : O.B s = false) (hn : s < O.n) (hr : isR k = true) (hg : 1 ≤ g ∧ g ≤ t' ∧ u < 4294967296) : OvOk (addF O k s g u) t' where
  n1 := h.n1
  n2 := h.n2
  rb := h.rb
  rw := h.rw
  rf := rise_put _ _ _
  tail := tail_put true h.tail hn
  one := by
    intro c x e c' x' e2 h1 h2 he
    rcases addF_has h1 with a | ⟨rfl, rfl, rfl⟩
    · rcases addF_has h2 with b | ⟨rfl, rfl, rfl⟩
      · exact h.one _ _ _ _ _ _ a b he
      · exact absurd he (free_not h hs a)
    · rcases addF_has h2 with b | ⟨rfl, rfl, rfl⟩
      · exact absurd he.symm (free_not h hs b)
      · exact ⟨rfl, rfl⟩
  taken := by
    intro i
    show putB O.B s 1 true i = true ↔ _
    by_cases hi : i = s
    · subst hi
      rw [putB_at]
      exact ⟨fun _ => ⟨2, k, _, addF_new O k i g u, rfl⟩, fun _ => rfl⟩
    · rw [putB_off _ hi, h.taken]
      constructor
      · rintro ⟨c, x, e, h1, h2⟩
        exact ⟨c, x, e, has_addF h0 h1, h2⟩
      · rintro ⟨c, x, e, h1, h2⟩
        rcases addF_has h1 with a | ⟨rfl, rfl, rfl⟩
        · exact ⟨c, x, e, a, h2⟩
        · simp only at h2
          omega
  range := by
    intro c x e h1
    rcases addF_has h1 with a | ⟨rfl, rfl, rfl⟩
    · exact h.range _ _ _ a
    · exact ⟨s, rfl, hn⟩
  apart := by
    intro x e h1
    have h1' : findM O.base x = some e := h1
    have h2 := h.apart x e h1'
    refine ⟨h2.1, ?_⟩
    show findM (putL O.fresh k _) x = none
    rw [find_put, if_neg, h2.2]
    intro hx
    rw [hx, hb] at h1'
    cases h1'
  fit := by
    intro c x e h1
    rcases addF_has h1 with a | ⟨rfl, rfl, rfl⟩
    · have h2 := h.fit _ _ _ a
      exact ⟨h2.1, h2.2.1, Int.le_trans h2.2.2.1 ht, h2.2.2.2⟩
    · exact ⟨hr, hg⟩

/-! ### Put -/
def genO (O : Ov) (k : Ky) : Int := ((findM (retireO O k).was k).getD (0, 0, 0)).2.1
def PutRel (O : Ov) (k : Ky) (O' : Ov) (x : Ent) (err : Int) : Prop :=
  (isR k = false ∧ O' = O ∧ x = (0, 0, 0) ∧ err = 2) ∨
  (isR k = true ∧ ∃ e, findM O.fresh k = some e ∧ O' = setF O k (e.1, e.2.1 + 1, 0) ∧ x = (e.1, e.2.1 + 1, 0) ∧ err = 0) ∨
  (isR k = true ∧ findM O.fresh k = none ∧ (∀ i, i < O.n → O.B i = true) ∧ O' = O ∧ x = (0, 0, 0) ∧ err = 12) ∨
  (isR k = true ∧ findM O.fresh k = none ∧ ∃ s : Nat, IsTake O.B O.n s ∧ O' = addF (retireO O k) k s (genO O k + 1) 0 ∧ x = ((s : Int), genO O k + 1, 0) ∧ err = 0)
theorem PutRel.same {O O1 O2 : Ov} {k : Ky} {x1 x2 : Ent} {e1 e2 : Int} (ht : ∀ i, O.n ≤ i → O.B i = false) (h : PutRel O k O1 x1 e1) (g : PutRel O k O2 x2 e2) : O1 = O2 ∧ x1 = x2 ∧ e1 = e2 := by
  rcases h with ⟨a, rfl, rfl, rfl⟩ | ⟨a, e, b, rfl, rfl, rfl⟩ | ⟨a, b, c, rfl, rfl, rfl⟩ | ⟨a, b, s, c, rfl, rfl, rfl⟩ <;> rcases g with ⟨a', rfl, rfl, rfl⟩ | ⟨a', e', b', rfl, rfl, rfl⟩ | ⟨a', b', c', rfl, rfl, rfl⟩ | ⟨a', b', s', c', rfl, rfl, rfl⟩
  · exact ⟨rfl, rfl, rfl⟩
  · rw [a] at a'; cases a'
  · rw [a] at a'; cases a'
  · rw [a] at a'; cases a'
  · rw [a] at a'; cases a'
  · rw [b, Option.some.injEq] at b'; subst b'; exact ⟨rfl, rfl, rfl⟩
  · rw [b] at b'; cases b'
  · rw [b] at b'; cases b'
  · rw [a] at a'; cases a'
  · rw [b] at b'; cases b'
  · exact ⟨rfl, rfl, rfl⟩
  · have := c s' c'.lt; rw [c'.free] at this; cases this
  · rw [a] at a'; cases a'
  · rw [b] at b'; cases b'
  · have := c' s c.lt; rw [c.free] at this; cases this
  · obtain rfl := c.same ht c'; exact ⟨rfl, rfl, rfl⟩
theorem genO_bd {O : Ov} {t : Int} (h : OvOk O t) (h0 : 0 ≤ t) (k : Ky) : 0 ≤ genO O k ∧ genO O k ≤ t := by
  unfold genO
  cases hf : findM (retireO O k).was k with
  | none => exact ⟨Int.le_refl _, h0⟩
  | some e =>
    have := (retire_ok h k).fit 1 k e ⟨by decide, hf⟩
    simp only [Option.getD_some]
    omega
theorem put_ok12 {O O' : Ov} {t : Int} {k : Ky} {x : Ent} {err : Int} (h : OvOk O t) (h0 : 0 ≤ t) (hp : PutRel O k O' x err) : OvOk O' (t + 1) := by
  rcases hp with ⟨_, rfl, _, _⟩ | ⟨_, e, he, rfl, _, _⟩ | ⟨_, _, _, rfl, _, _⟩ | ⟨hr, hf, s, hs, rfl, _, _⟩
  · exact h.more (by omega)
  · have := h.fit 2 k e ⟨by decide, he⟩
    exact setF_ok h (by omega) he rfl ⟨by simp only; omega, by simp only; omega, by simp⟩
  · exact h.more (by omega)
  · have hg := genO_bd h h0 k
    refine addF_ok (retire_ok h k) (by omega) (by rw [retire_fresh]; exact hf) (by rw [retire_base, if_pos rfl]) (by rw [(retire_n O k).2]; exact hs.free) (by rw [(retire_n O k).1]; exact hs.lt) hr ⟨by omega, by omega, by decide⟩

/-! ### Sum -/
def sumO (O : Ov) (k : Ky) (u : Nat) : Ov × Int := match findM O.fresh k with
  | some e => (setF O k (e.1, e.2.1, u), 0)
  | none => (O, 2)
theorem sum_ok12 {O : Ov} {t : Int} (h : OvOk O t) (k : Ky) {u : Nat} (hu : u < 4294967296) : OvOk (sumO O k u).1 t := by
  unfold sumO
  cases hf : findM O.fresh k with
  | none => exact h
  | some e =>
    have := h.fit 2 k e ⟨by decide, hf⟩
    exact setF_ok h (Int.le_refl _) hf rfl ⟨this.2.1, this.2.2.1, hu⟩

/-! ### Drop -/
def cutF (O : Ov) (k : Ky) (s : Int) : Ov := { O with B := giveB O.B [s], fresh := cutL O.fresh k }
theorem cutF_has {O : Ov} {k : Ky} {s : Int} {c : Nat} {x : Ky} {e : Ent} (h : (cutF O k s).Has c x e) : O.Has c x e ∧ ¬ (c = 2 ∧ x = k) := by
  obtain ⟨hc, h⟩ := h
  match c, hc, h with
  | 0, hc, h => exact ⟨⟨hc, h⟩, by omega⟩
  | 1, hc, h => exact ⟨⟨hc, h⟩, by omega⟩
  | 2, hc, h =>
    have h' : findM (cutL O.fresh k) x = some e := h
    rw [find_cut] at h'
    split at h'
    · cases h'
    · rename_i hx
      exact ⟨⟨hc, h'⟩, fun q => hx q.2⟩
  | c + 3, hc, h => omega
theorem has_cutF {O : Ov} {k : Ky} {s : Int} {c : Nat} {x : Ky} {e : Ent} (h : O.Has c x e) (hn : ¬ (c = 2 ∧ x = k)) : (cutF O k s).Has c x e := by
  obtain ⟨hc, h⟩ := h
  match c, hc, h with
  | 0, hc, h => exact ⟨hc, h⟩
  | 1, hc, h => exact ⟨hc, h⟩
  | 2, hc, h =>
    refine ⟨hc, ?_⟩
    show findM (cutL O.fresh k) x = _
    rw [find_cut, if_neg (fun hx => hn ⟨rfl, hx⟩)]
    exact h
  | c + 3, hc, h => omega
theorem cutF_ok {O : Ov} {t : Int} (h : OvOk O t) {k : Ky} {e0 : Ent} (h0 : findM O.fresh k = some e0) : OvOk (cutF O k e0.1) t where
  n1 := h.n1
  n2 := h.n2
  rb := h.rb
  rw := h.rw
  rf := rise_cut _ _
  tail := fun i hi => by
    show giveB O.B _ i = false
    unfold giveB
    rw [h.tail i hi]
    rfl
  one := fun c x e c' x' e2 h1 h2 he => h.one _ _ _ _ _ _ (cutF_has h1).1 (cutF_has h2).1 he
  taken := by
    intro i
    show giveB O.B [e0.1] i = true ↔ _
    unfold giveB
    rw [Bool.and_eq_true, h.taken]
    constructor
    · rintro ⟨⟨c, x, e, h1, h2⟩, h3⟩
      refine ⟨c, x, e, has_cutF h1 ?_, h2⟩
      rintro ⟨rfl, rfl⟩
      have h4 : findM O.fresh x = some e := h1.2
      rw [h0, Option.some.injEq] at h4
      subst h4
      rw [h2] at h3
      simp at h3
    · rintro ⟨c, x, e, h1, h2⟩
      obtain ⟨h3, h4⟩ := cutF_has h1
      refine ⟨⟨c, x, e, h3, h2⟩, ?_⟩
      have h5 : (i : Int) ≠ e0.1 := fun e5 => by
        obtain ⟨q1, q2⟩ := h.one c x e 2 k e0 h3 ⟨by decide, h0⟩ (h2.trans e5)
        exact h4 ⟨q1, q2⟩
      simp [h5]
  range := fun c x e h1 => h.range _ _ _ (cutF_has h1).1
  apart := by
    intro x e h1
    have h2 := h.apart x e h1
    refine ⟨h2.1, ?_⟩
    show findM (cutL O.fresh k) x = none
    rw [find_cut, h2.2]
    split <;> rfl
  fit := fun c x e h1 => h.fit _ _ _ (cutF_has h1).1
def dropO (O : Ov) (k : Ky) : Ov × Bool := match findM O.fresh k with
  | some e => (retireO (cutF O k e.1) k, true)
  | none => (retireO O k, (findM O.base k).isSome)
theorem drop_ok12 {O : Ov} {t : Int} (h : OvOk O t) (k : Ky) : OvOk (dropO O k).1 t := by
  unfold dropO
  cases hf : findM O.fresh k with
  | none => exact retire_ok h k
  | some e => exact retire_ok (cutF_ok h hf) k
theorem slot_good {O : Ov} {t : Int} (h : OvOk O t) {c : Nat} {k : Ky} {e : Ent} (h0 : O.Has c k e) : GoodG O.n O.B [e.1] := by
  refine ⟨by simp, fun z hz => ?_⟩
  rw [List.mem_singleton] at hz
  subst hz
  obtain ⟨s, h1, h2⟩ := h.range _ _ _ h0
  exact ⟨s, h1, h2, (h.taken s).2 ⟨_, _, _, h0, h1⟩⟩

/-! ### Slots, rising -/
def insI (out : List Int) (z : Int) : List Int := out.takeWhile (fun y => decide (y < z)) ++ z :: out.dropWhile (fun y => decide (y < z))
def slotsL (l : List Md) : List Int := l.foldl (fun out m => insI out m.s) []
theorem insI_mem {out : List Int} {z y : Int} : y ∈ insI out z ↔ y = z ∨ y ∈ out := by
  unfold insI
  conv => rhs; rw [← List.takeWhile_append_dropWhile (p := fun y => decide (y < z)) (l := out)]
  simp only [List.mem_append, List.mem_cons]
  constructor
  · rintro (h | h | h)
    · exact .inr (.inl h)
    · exact .inl h
    · exact .inr (.inr h)
  · rintro (h | h | h)
    · exact .inr (.inl h)
    · exact .inl h
    · exact .inr (.inr h)
theorem insI_len (out : List Int) (z : Int) : (insI out z).length = out.length + 1 := by
  unfold insI
  have := congrArg List.length (List.takeWhile_append_dropWhile (p := fun y => decide (y < z)) (l := out))
  simp only [List.length_append, List.length_cons] at *
  omega
theorem slots_snoc (l : List Md) (m : Md) : slotsL (l ++ [m]) = insI (slotsL l) m.s := by simp [slotsL]
theorem slots_len (l : List Md) : (slotsL l).length = l.length := by
  have : ∀ (l : List Md) (out : List Int), (l.foldl (fun out m => insI out m.s) out).length = out.length + l.length := by
    intro l
    induction l with
    | nil => intro out; rfl
    | cons m r ih => intro out; rw [List.foldl_cons, ih, insI_len, List.length_cons]; omega
  have h := this l []
  simpa [slotsL] using h
theorem slots_mem {l : List Md} {y : Int} : y ∈ slotsL l ↔ ∃ m ∈ l, m.s = y := by
  have : ∀ (l : List Md) (out : List Int), y ∈ l.foldl (fun out m => insI out m.s) out ↔ y ∈ out ∨ ∃ m ∈ l, m.s = y := by
    intro l
    induction l with
    | nil => intro out; simp
    | cons m r ih =>
      intro out
      rw [List.foldl_cons, ih, insI_mem]
      constructor
      · rintro ((h | h) | ⟨a, h, h2⟩)
        · exact .inr ⟨m, .head _, h.symm⟩
        · exact .inl h
        · exact .inr ⟨a, .tail _ h, h2⟩
      · rintro (h | ⟨a, h, h2⟩)
        · exact .inl (.inr h)
        · rcases List.mem_cons.1 h with e | e
          · subst e
            exact .inl (.inl h2.symm)
          · exact .inr ⟨a, e, h2⟩
  have h := this l []
  simpa [slotsL] using h
theorem insI_nodup {out : List Int} {z : Int} (h : out.Nodup) (hz : z ∉ out) : (insI out z).Nodup := by
  have h1 := List.takeWhile_append_dropWhile (p := fun y => decide (y < z)) (l := out)
  unfold insI
  rw [← h1] at h hz
  rw [List.nodup_append] at h ⊢
  rw [List.mem_append, not_or] at hz
  refine ⟨h.1, List.nodup_cons.2 ⟨hz.2, h.2.1⟩, fun a ha b hb => ?_⟩
  rcases List.mem_cons.1 hb with e | e
  · subst e
    exact fun e' => hz.1 (e' ▸ ha)
  · exact h.2.2 a ha b e
theorem slots_nodup {l : List Md} (h : (l.map Md.s).Nodup) : (slotsL l).Nodup := by
  have : ∀ (l : List Md) (out : List Int), out.Nodup → (l.map Md.s).Nodup → (∀ m ∈ l, m.s ∉ out) → (l.foldl (fun out m => insI out m.s) out).Nodup := by
    intro l
    induction l with
    | nil => intro out h1 _ _; exact h1
    | cons m r ih =>
      intro out h1 h2 h3
      rw [List.map_cons, List.nodup_cons] at h2
      rw [List.foldl_cons]
      refine ih _ (insI_nodup h1 (h3 m (.head _))) h2.2 fun a ha hm => ?_
      rw [insI_mem] at hm
      rcases hm with e | e
      · exact h2.1 (by rw [← e]; exact List.mem_map_of_mem ha)
      · exact h3 a (.tail _ ha) e
  exact this l [] List.nodup_nil h (fun _ _ => by simp)
theorem part_slots {O : Ov} {t : Int} (h : OvOk O t) {c : Nat} (hc : c < 3) (hr : Rise (O.part c)) : ((O.part c).map Md.s).Nodup := by
  have key : ∀ m ∈ O.part c, O.Has c m.k (m.s, m.g, m.u) := fun m hm => ⟨hc, mem_find hr.nodup hm⟩
  have gen : ∀ l : List Md, (l.map Md.k).Nodup → (∀ m ∈ l, m ∈ O.part c) → (l.map Md.s).Nodup := by
    intro l
    induction l with
    | nil => intro _ _; exact List.nodup_nil
    | cons m r ih =>
      intro h1 h2
      rw [List.map_cons, List.nodup_cons] at h1 ⊢
      refine ⟨fun hm => ?_, ih h1.2 fun a ha => h2 a (.tail _ ha)⟩
      obtain ⟨a, ha, e⟩ := List.mem_map.1 hm
      have q := (h.one _ _ _ _ _ _ (key a (h2 a (.tail _ ha))) (key m (h2 m (.head _))) e).2
      exact h1.1 (by rw [← q]; exact List.mem_map_of_mem ha)
  exact gen _ hr.nodup fun m hm => hm
theorem was_good {O : Ov} {t : Int} (h : OvOk O t) : GoodG O.n O.B (slotsL O.was) := by
  refine ⟨slots_nodup (part_slots h (c := 1) (by decide) h.rw), fun z hz => ?_⟩
  obtain ⟨m, hm, rfl⟩ := slots_mem.1 hz
  have h0 : O.Has 1 m.k (m.s, m.g, m.u) := ⟨by decide, mem_find h.rw.nodup hm⟩
  obtain ⟨s, h1, h2⟩ := h.range _ _ _ h0
  exact ⟨s, h1, h2, (h.taken s).2 ⟨_, _, _, h0, h1⟩⟩

/-! ### Commit -/
def commitO (O : Ov) : Ov := { O with B := giveB O.B (slotsL O.was), base := applyM O.base O.fresh [], was := [], fresh := [] }
theorem commit_base {O : Ov} {t : Int} (h : OvOk O t) (x : Ky) : findM (commitO O).base x = (findM O.fresh x).or (findM O.base x) := by
  show findM (applyM O.base O.fresh []) x = _
  rw [find_apply h.rf.nodup]
  by_cases hx : x ∈ O.fresh.map Md.k
  · obtain ⟨e, he⟩ := find_in hx
    rw [if_pos hx, he]
    rfl
  · rw [if_neg hx, find_out.2 hx]
    simp
theorem commit_has {O : Ov} {t : Int} (h : OvOk O t) {c : Nat} {x : Ky} {e : Ent} (h1 : (commitO O).Has c x e) : c = 0 ∧ ∃ c0, (c0 = 0 ∨ c0 = 2) ∧ O.Has c0 x e := by
  obtain ⟨hc, h1⟩ := h1
  match c, hc, h1 with
  | 0, hc, h1 =>
    have h' : findM (commitO O).base x = some e := h1
    rw [commit_base h] at h'
    cases hf : findM O.fresh x with
    | none =>
      rw [hf] at h'
      exact ⟨rfl, 0, .inl rfl, ⟨hc, h'⟩⟩
    | some e0 =>
      rw [hf] at h'
      simp only [Option.some_or, Option.some.injEq] at h'
      subst h'
      exact ⟨rfl, 2, .inr rfl, ⟨by decide, hf⟩⟩
  | 1, hc, h1 => cases (show findM ([] : List Md) x = some e from h1)
  | 2, hc, h1 => cases (show findM ([] : List Md) x = some e from h1)
  | c + 3, hc, h1 => omega
theorem has_commit {O : Ov} {t : Int} (h : OvOk O t) {c : Nat} {x : Ky} {e : Ent} (h1 : O.Has c x e) (hc1 : c ≠ 1) : (commitO O).Has 0 x e := by
  obtain ⟨hc, h1⟩ := h1
  refine ⟨by decide, ?_⟩
  show findM (commitO O).base x = _
  rw [commit_base h]
  match c, hc, h1, hc1 with
  | 0, hc, h1, _ =>
    have h' : findM O.base x = some e := h1
    rw [(h.apart x e h').2, h']
    rfl
  | 1, hc, h1, hc1 => exact absurd rfl hc1
  | 2, hc, h1, _ =>
    have h' : findM O.fresh x = some e := h1
    rw [h']
    rfl
  | c + 3, hc, h1, _ => omega
theorem commit_ok12 {O : Ov} {t : Int} (h : OvOk O t) : OvOk (commitO O) t where
  n1 := h.n1
  n2 := h.n2
  rb := rise_apply _ _ _
  rw := Rise.nil
  rf := Rise.nil
  tail := fun i hi => by
    show giveB O.B _ i = false
    unfold giveB
    rw [h.tail i hi]
    rfl
  one := by
    intro c x e c' x' e2 h1 h2 he
    obtain ⟨rfl, c0, _, g1⟩ := commit_has h h1
    obtain ⟨rfl, c1, _, g2⟩ := commit_has h h2
    exact ⟨rfl, (h.one _ _ _ _ _ _ g1 g2 he).2⟩
  taken := by
    intro i
    show giveB O.B (slotsL O.was) i = true ↔ _
    unfold giveB
    rw [Bool.and_eq_true, h.taken]
    constructor
    · rintro ⟨⟨c, x, e, h1, h2⟩, h3⟩
      refine ⟨0, x, e, has_commit h h1 ?_, h2⟩
      rintro rfl
      have hm := find_mem h1.2
      have : (i : Int) ∈ slotsL O.was := slots_mem.2 ⟨_, hm, h2⟩
      simp [this] at h3
    · rintro ⟨c, x, e, h1, h2⟩
      obtain ⟨rfl, c0, hc0, g1⟩ := commit_has h h1
      refine ⟨⟨c0, x, e, g1, h2⟩, ?_⟩
      have : (i : Int) ∉ slotsL O.was := fun hm => by
        obtain ⟨m, hm1, hm2⟩ := slots_mem.1 hm
        have q := (h.one c0 x e 1 m.k (m.s, m.g, m.u) g1 ⟨by decide, mem_find h.rw.nodup hm1⟩ (h2.trans hm2.symm)).1
        omega
      simp [this]
  range := by
    intro c x e h1
    obtain ⟨_, c0, _, g1⟩ := commit_has h h1
    exact h.range _ _ _ g1
  apart := fun x e _ => ⟨rfl, rfl⟩
  fit := by
    intro c x e h1
    obtain ⟨_, c0, _, g1⟩ := commit_has h h1
    exact h.fit _ _ _ g1
def getO12 (O : Ov) (k : Ky) : Option Ent := (findM O.fresh k).or (findM O.base k)
def goneL (O : Ov) : List Ky := (O.was.map Md.k).filter fun k => !(findM O.fresh k).isSome
end Go.Proofs.YtjhkcdnfnmglhaaGreatDoor

/- Pages of an overlay: maps from keys to entries that hold a list by rising keys. -/
namespace Go.Proofs.YtjhkcdnfnmglhaaGreatDoor
open Go.RowKit Go.Maps Go.WideElems Go.MapKept Go.ChangeMaps
set_option linter.unusedVariables false
set_option maxRecDepth 20000

/-! ### How long the lists are -/
theorem len_same {a b : List Ky} (ha : a.Nodup) (hb : b.Nodup) (h : ∀ x, x ∈ a ↔ x ∈ b) : a.length = b.length :=
  ((List.perm_ext_iff_of_nodup ha hb).2 h).length_eq
theorem key_in {l : List Md} {x : Ky} : x ∈ l.map Md.k ↔ (findM l x).isSome = true := by
  rw [isSome_find, decide_eq_true_iff]
theorem len_put {l : List Md} (hl : Rise l) (k : Ky) (e : Ent) : (putL l k e).length = if (findM l k).isSome = true then l.length else l.length + 1 := by
  have h1 : ∀ x, x ∈ (putL l k e).map Md.k ↔ x = k ∨ x ∈ l.map Md.k := fun x => by
    rw [key_in, key_in, find_put]
    by_cases q : x = k
    · simp [q]
    · simp [q]
  have hn := (rise_put l k e).nodup
  split
  · rename_i hs
    have := len_same hn hl.nodup fun x => by
      rw [h1]
      exact ⟨fun h => h.elim (fun q => by rw [q]; exact key_in.2 hs) id, .inr⟩
    simpa using this
  · rename_i hs
    have h2 : (k :: l.map Md.k).Nodup := List.nodup_cons.2 ⟨fun h => hs (key_in.1 h), hl.nodup⟩
    have := len_same hn h2 fun x => by rw [h1, List.mem_cons]
    simpa using this
theorem len_cut {l : List Md} (hl : Rise l) (k : Ky) : (cutL l k).length + (if (findM l k).isSome = true then 1 else 0) = l.length := by
  have h1 : ∀ x, x ∈ (cutL l k).map Md.k ↔ x ≠ k ∧ x ∈ l.map Md.k := fun x => by
    rw [key_in, key_in, find_cut]
    by_cases q : x = k
    · simp [q]
    · simp [q]
  have hn := (rise_cut l k).nodup
  split
  · rename_i hs
    have h2 : (k :: (cutL l k).map Md.k).Nodup := List.nodup_cons.2 ⟨fun h => ((h1 k).1 h).1 rfl, hn⟩
    have := len_same h2 hl.nodup fun x => by
      rw [List.mem_cons, h1]
      refine ⟨fun h => h.elim (fun q => by rw [q]; exact key_in.2 hs) (·.2), fun h => ?_⟩
      by_cases q : x = k
      · exact .inl q
      · exact .inr ⟨q, h⟩
    simpa using this
  · rename_i hs
    have := len_same hn hl.nodup fun x => by
      rw [h1]
      exact ⟨(·.2), fun h => ⟨fun q => hs (key_in.1 (q ▸ h)), h⟩⟩
    simpa using this

/-! ### A map that holds a list -/
structure EntL (D : Dw) (l : List Md) : Prop where
  rise : Rise l
  fit : ∀ k ∈ l.map Md.k, KI k
  isMap : IsMap D
  has : ∀ k, KI k → Maps.has D (klit k) = (findM l k).isSome
  val : ∀ k e, KI k → findM l k = some e → ∀ z, D.atKey (klit k) z = edat e
  size : Maps.size D = l.length
theorem EntL.nil : EntL (.map []) [] := ⟨Rise.nil, by simp, isMap_empty, fun k _ => rfl, fun k e _ h => (by cases h), rfl⟩
theorem EntL.none {D : Dw} {l : List Md} (h : EntL D l) (k : Ky) (hk : KI k) (hf : findM l k = Option.none) (z : Dw) : D.atKey (klit k) z = z := atKey_of_not_has (by rw [h.has k hk, hf]; rfl) z
theorem EntL.put {D : Dw} {l : List Md} (h : EntL D l) (ht : Tidy D) {k : Ky} (hk : KI k) (e : Ent) : EntL (D.put (klit k) (edat e)) (putL l k e) := by
  refine ⟨rise_put _ _ _, fun x hx => ?_, h.isMap.put _ _, fun x hx => ?_, fun x e' hx hf z => ?_, ?_⟩
  · rw [key_in, find_put] at hx
    by_cases q : x = k
    · rw [q]; exact hk
    · rw [if_neg q] at hx
      exact h.fit x (key_in.2 hx)
  · rw [find_put]
    by_cases q : x = k
    · subst q
      rw [has_put_same h.isMap (klit_key x)]
      simp
    · rw [has_put_other (fun e' => q (klit_inj hx hk e')), h.has x hx, if_neg q]
  · rw [find_put] at hf
    by_cases q : x = k
    · subst q
      rw [if_pos rfl, Option.some.injEq] at hf
      rw [atKey_put_same h.isMap (klit_key x), hf]
    · rw [if_neg q] at hf
      rw [atKey_put_other (fun e' => q (klit_inj hx hk e')), h.val x e' hx hf]
  · rw [size_put ht, h.has k hk, h.size, len_put h.rise]
theorem EntL.del {D : Dw} {l : List Md} (h : EntL D l) (ht : Tidy D) {k : Ky} (hk : KI k) : EntL (D.del (klit k)) (cutL l k) := by
  refine ⟨rise_cut _ _, fun x hx => ?_, h.isMap.del _, fun x hx => ?_, fun x e' hx hf z => ?_, ?_⟩
  · rw [key_in, find_cut] at hx
    by_cases q : x = k
    · rw [if_pos q] at hx; cases hx
    · rw [if_neg q] at hx
      exact h.fit x (key_in.2 hx)
  · rw [find_cut]
    by_cases q : x = k
    · subst q
      rw [has_del_same]
      simp
    · rw [has_del_other (fun e' => q (klit_inj hx hk e')), h.has x hx, if_neg q]
  · rw [find_cut] at hf
    by_cases q : x = k
    · rw [if_pos q] at hf; cases hf
    · rw [if_neg q] at hf
      rw [atKey_del_other (fun e' => q (klit_inj hx hk e')), h.val x e' hx hf]
  · have h1 := size_del (k := klit k) ht
    have h2 := len_cut h.rise k
    rw [h.has k hk, h.size] at h1
    omega
/-- The map at block b holds the list l. -/
def MapL (w : World) (b : Nat) (l : List Md) : Prop := ∃ D : Dw, w.ownsMap Tryz.prog 32 entR b l.length D ∧ EntL D l
theorem owns_len {w : World} {b n : Nat} {l : List Md} {D : Dw} (h : w.ownsMap Tryz.prog 32 entR b n D) (he : EntL D l) : w.ownsMap Tryz.prog 32 entR b l.length D := by
  obtain ⟨es, clock, hb, F, hs, rfl⟩ := h
  refine ⟨es, clock, hb, F, ?_, rfl⟩
  have e1 : Maps.size (DataW.map ((es.toList.map (rg Tryz.prog 32 entR)).foldr DataW.insert [])) = es.size := by simp [Maps.size, length_sorted]
  rw [← he.size, e1]
  exact Nat.le_refl _
theorem MapL.made (w : World) : MapL (w.alloc (.map #[] 0)) w.heap.size [] := ⟨_, World.ownsMap_made _ _ _ _, EntL.nil⟩
theorem MapL.rise {w : World} {b : Nat} {l : List Md} (h : MapL w b l) : Rise l := by obtain ⟨D, _, h2⟩ := h; exact h2.rise
theorem MapL.fit {w : World} {b : Nat} {l : List Md} (h : MapL w b l) : ∀ k ∈ l.map Md.k, KI k := by obtain ⟨D, _, h2⟩ := h; exact h2.fit
theorem MapL.lt {w : World} {b : Nat} {l : List Md} (h : MapL w b l) : b < w.heap.size := by obtain ⟨D, h1, _⟩ := h; exact h1.lt
theorem MapL.map {w : World} {b : Nat} {l : List Md} (h : MapL w b l) : ∃ es clock, w.heap[b]? = some (.map es clock) := by obtain ⟨D, ⟨es, clock, hb, _⟩, _⟩ := h; exact ⟨es, clock, hb⟩
theorem MapL.same {w w' : World} {b : Nat} {l : List Md} (h : MapL w b l) (hh : w'.heap[b]? = w.heap[b]?) : MapL w' b l := by
  obtain ⟨D, ⟨es, clock, hb, r⟩, h2⟩ := h
  exact ⟨D, ⟨es, clock, hh.trans hb, r⟩, h2⟩
theorem MapL.grown {w w' : World} {b : Nat} {l : List Md} {row : Option Nat} (h : MapL w b l) (hg : w.grownBy w' row) (hne : some b ≠ row) : MapL w' b l := h.same (hg.block b h.lt hne)
theorem MapL.kept {w w' : World} {b : Nat} {l : List Md} (h : MapL w b l) (hb : Below w.heap.size w w') : MapL w' b l := h.same (hb.block b h.lt)
theorem MapL.drew {w : World} {b : Nat} {l : List Md} (h : MapL w b l) : MapL w.drew b l := h.same rfl
/-- 'e, ok := m[k]'. -/
theorem MapL.look {w : World} {b : Nat} {l : List Md} (h : MapL w b l) {k : Ky} (hk : KI k) :
    (Instr.lookup 68 (.map (some b)) (.agg #[.int .i64 k.1, .int .i64 k.2]) true).run Tryz.prog w = .ok (.tuple #[entV (findM l k), .bool (findM l k).isSome]) w := by
  obtain ⟨D, h1, h2⟩ := h
  obtain ⟨v, ps, hr, hv⟩ := h1.look_ok lawK Tryz.underlying68 (zeroEn w) (entR_mk _) (keyOf_k hk)
  rw [h2.has k hk] at hr
  rw [hr]
  cases hf : findM l k with
  | none =>
    rw [h2.none k hk hf] at hv
    obtain ⟨e, rfl, he⟩ := entR_inv hv
    have := edat_inj (congrArg Prod.fst he)
    subst this
    rfl
  | some e0 =>
    rw [h2.val k e0 hk hf] at hv
    obtain ⟨e, rfl, he⟩ := entR_inv hv
    have := edat_inj (congrArg Prod.fst he)
    subst this
    rfl
/-- 'm[k]'. -/
theorem MapL.look1 {w : World} {b : Nat} {l : List Md} (h : MapL w b l) {k : Ky} (hk : KI k) :
    (Instr.lookup 68 (.map (some b)) (.agg #[.int .i64 k.1, .int .i64 k.2]) false).run Tryz.prog w = .ok (entV (findM l k)) w := by
  obtain ⟨D, h1, h2⟩ := h
  obtain ⟨v, ps, hr, hv⟩ := h1.lookup lawK Tryz.underlying68 (zeroEn w) (entR_mk _) (keyOf_k hk)
  rw [hr]
  cases hf : findM l k with
  | none =>
    rw [h2.none k hk hf] at hv
    obtain ⟨e, rfl, he⟩ := entR_inv hv
    have := edat_inj (congrArg Prod.fst he)
    subst this
    rfl
  | some e0 =>
    rw [h2.val k e0 hk hf] at hv
    obtain ⟨e, rfl, he⟩ := entR_inv hv
    have := edat_inj (congrArg Prod.fst he)
    subst this
    rfl
/-- 'm[k] = e'. -/
theorem MapL.put {w : World} {b : Nat} {l : List Md} (h : MapL w b l) (hn : l.length < 100000) {k : Ky} (hk : KI k) (e : Ent) :
    ∃ w', (Instr.mapUpdate 68 (.map (some b)) (.agg #[.int .i64 k.1, .int .i64 k.2]) (evalE e)).run Tryz.prog w = .ok () w' ∧ MapL w' b (putL l k e) ∧ w.grownBy w' (some b) := by
  obtain ⟨D, h1, h2⟩ := h
  obtain ⟨w', hr, ho, hg⟩ := h1.update lawK Tryz.underlying68 (by unfold maxLen; omega) (keyOf_k hk) (entR_mk e)
  have h3 := h2.put (h1.tidy lawK) hk e
  exact ⟨w', hr, ⟨_, owns_len ho h3, h3⟩, hg⟩
/-- 'delete(m, k)'. -/
theorem MapL.del {w : World} {b : Nat} {l : List Md} (h : MapL w b l) {k : Ky} (hk : KI k) (ty : TypeId) :
    ∃ w', (Builtin.delete_ #[68, 32] ty #[.map (some b), .agg #[.int .i64 k.1, .int .i64 k.2]]).run Tryz.prog w = .ok (.tuple #[]) w' ∧ MapL w' b (cutL l k) ∧ w.grownBy w' (some b) := by
  obtain ⟨D, h1, h2⟩ := h
  obtain ⟨w', hr, ho, hg⟩ := h1.drop lawK Tryz.underlying68 (keyOf_k hk) ty
  have h3 := h2.del (h1.tidy lawK) hk
  exact ⟨w', hr, ⟨_, owns_len ho h3, h3⟩, hg.grown⟩
/-- 'clear(m)'. -/
theorem MapL.clear {w : World} {b : Nat} {l : List Md} (h : MapL w b l) (ty : TypeId) :
    ∃ w', (Builtin.clear_ #[68] ty #[.map (some b)]).run Tryz.prog w = .ok (.tuple #[]) w' ∧ MapL w' b [] ∧ w.grownBy w' (some b) := by
  obtain ⟨D, ⟨es, clock, hb, F, hs, hD⟩, h2⟩ := h
  refine ⟨setBlock w b (.map #[] clock), ?_, ⟨_, ⟨#[], clock, heap_setBlock_same hb _, ⟨by simp, stamped_empty clock, by simp⟩, Nat.le_refl _, rfl⟩, EntL.nil⟩, ?_⟩
  · simp [Builtin.clear_, run_underlying Tryz.underlying68, MapKept.run_getObj_map hb, MapKept.run_setObj_map _ hb, Result.andThen]
    rfl
  · exact (show w.mapTurned (setBlock w b (.map #[] clock)) b from ⟨es, clock, #[], clock, hb, rfl⟩).grown

/-! ### What a range has met -/
structure MetL (l : List Md) (left : Lit → Bool) (ss : List Md) : Prop where
  nodup : (ss.map Md.k).Nodup
  mem : ∀ k, KI k → (k ∈ ss.map Md.k ↔ k ∈ l.map Md.k ∧ left (klit k) = false)
  find : ∀ m ∈ ss, findM l m.k = some (m.s, m.g, m.u)
  fit : ∀ k ∈ ss.map Md.k, KI k
theorem MetL.start {D : Dw} {l : List Md} (h : EntL D l) : MetL l (Maps.has D) [] where
  nodup := List.nodup_nil
  mem := fun k hk => by
    rw [h.has k hk, key_in (l := l)]
    constructor
    · intro h'; cases h'
    · rintro ⟨a, b⟩
      rw [a] at b
      cases b
  find := by simp
  fit := by simp
theorem MetL.step {D : Dw} {l : List Md} {left : Lit → Bool} {ss : List Md} (h : MetL l left ss) {x : Ky} {e : Ent} (hx : KI x) (hl : left (klit x) = true) (hf : findM l x = some e) : MetL l (fun z => left z && !z.sameKey (klit x)) (ss ++ [md x e]) := by
  have hno : x ∉ ss.map Md.k := fun h' => by have := ((h.mem x hx).1 h').2; rw [hl] at this; cases this
  refine ⟨?_, fun k hk => ?_, fun m hm => ?_, fun k hk => ?_⟩
  · rw [List.map_append, List.nodup_append]
    exact ⟨h.nodup, by simp, fun a ha b hb => by rw [List.map_singleton, List.mem_singleton] at hb; rw [hb, md_k]; exact fun e => hno (e ▸ ha)⟩
  · rw [List.map_append, List.mem_append, List.map_singleton, List.mem_singleton, md_k, h.mem k hk, klit_same hk hx]
    by_cases q : k = x
    · subst q
      simp only [or_true, decide_true, Bool.not_true, Bool.and_false, and_true, true_iff]
      exact key_in.2 (by rw [hf]; rfl)
    · simp [q]
  · rw [List.mem_append, List.mem_singleton] at hm
    rcases hm with hm | rfl
    · exact h.find m hm
    · exact hf
  · rw [List.map_append, List.mem_append, List.map_singleton, List.mem_singleton, md_k] at hk
    exact hk.elim (h.fit k) (fun e => e ▸ hx)
/-- All of them, in some order. -/
theorem MetL.all {l : List Md} {left : Lit → Bool} {ss : List Md} (h : MetL l left ss) (hk : ∀ k ∈ l.map Md.k, KI k) (hr : Rise l) (hl : ∀ z, left z = false) : ss.Perm l := by
  have hn1 : ss.Nodup := List.Pairwise.of_map Md.k (fun a b hne e => hne (by rw [e])) h.nodup
  have hn2 : l.Nodup := List.Pairwise.of_map Md.k (fun a b hne e => hne (by rw [e])) hr.nodup
  refine (List.perm_ext_iff_of_nodup hn1 hn2).2 fun m => ⟨fun hm => ?_, fun hm => ?_⟩
  · have := find_mem (h.find m hm)
    rwa [md_self] at this
  · have hkm : m.k ∈ l.map Md.k := List.mem_map.2 ⟨m, hm, rfl⟩
    have h1 := (h.mem m.k (hk _ hkm)).2 ⟨hkm, hl _⟩
    obtain ⟨m', hm', e⟩ := List.mem_map.1 h1
    have h2 := h.find m' hm'
    rw [e, mem_find hr.nodup hm] at h2
    simp only [Option.some.injEq, Prod.mk.injEq] at h2
    obtain ⟨a, b, c⟩ := h2
    have : m' = m := by
      obtain ⟨q1, q2, q3, q4, q5⟩ := m
      obtain ⟨r1, r2, r3, r4, r5⟩ := m'
      simp only [Md.k, Prod.mk.injEq] at e a b c
      obtain ⟨e1, e2⟩ := e
      subst e1 e2 a b c
      rfl
    rwa [this] at hm'
theorem EntL.at_ {D : Dw} {l : List Md} (h : EntL D l) {x : Ky} {e : Ent} (hx : KI x) (hat : ∀ zd, D.atKey (klit x) zd = edat e) : findM l x = some e := by
  have h1 := Maps.has_true_of_atKey hat
  rw [h.has x hx] at h1
  cases hf : findM l x with
  | none => rw [hf] at h1; cases h1
  | some e0 =>
    have h2 := h.val x e0 hx hf (.lit (.bool true))
    rw [hat] at h2
    rw [edat_inj h2]
end Go.Proofs.YtjhkcdnfnmglhaaGreatDoor

/- A contract of the library laid at this dump, in plain words. -/
namespace Go.Proofs.YtjhkcdnfnmglhaaGreatDoor
open Go.Shelf Go.Proofs
def Tryz.sortI_ren : Go.Shelf.Ren := ⟨fun | 5 => 58 | 8 => 73 | 7 => 72 | 19 => 92 | 20 => 93 | 10 => 83 | 11 => 84 | 12 => 85 | 13 => 86 | 14 => 87 | 15 => 88 | 16 => 89 | 17 => 90 | 18 => 91 | 30 => 108 | 31 => 109 | 32 => 110 | 33 => 111 | 34 => 112 | 35 => 78 | 40 => 126 | n => n, fun | 23 => 63 | 25 => 3 | 3 => 3 | 32 => 116 | 22 => 63 | 0 => 0 | 44 => 33 | 46 => 122 | 4 => 4 | 36 => 131 | 35 => 130 | 41 => 136 | 5 => 5 | 9 => 9 | 53 => 148 | 57 => 152 | 63 => 161 | 64 => 80 | n => n, fun | n => n⟩
theorem Tryz.sortI : Go.Proofs.SlLaysM.n5 Tryz.prog Tryz.sortI_ren := {
  mixed := by kernel_rfl
  f5 := ⟨Tryz.f58.name, by decide, Tryz.func58.trans (congrArg some (by kernel_rfl))⟩
  f7 := ⟨Tryz.f72.name, by decide, Tryz.func72.trans (congrArg some (by kernel_rfl))⟩
  f8 := Tryz.func73.trans (congrArg some (by kernel_rfl))
  f10 := ⟨Tryz.f83.name, by decide, Tryz.func83.trans (congrArg some (by kernel_rfl))⟩
  f11 := ⟨Tryz.f84.name, by decide, Tryz.func84.trans (congrArg some (by kernel_rfl))⟩
  f12 := ⟨Tryz.f85.name, by decide, Tryz.func85.trans (congrArg some (by kernel_rfl))⟩
  f13 := ⟨Tryz.f86.name, by decide, Tryz.func86.trans (congrArg some (by kernel_rfl))⟩
  f14 := ⟨Tryz.f87.name, by decide, Tryz.func87.trans (congrArg some (by kernel_rfl))⟩
  f15 := ⟨Tryz.f88.name, by decide, Tryz.func88.trans (congrArg some (by kernel_rfl))⟩
  f16 := ⟨Tryz.f89.name, by decide, Tryz.func89.trans (congrArg some (by kernel_rfl))⟩
  f17 := ⟨Tryz.f90.name, by decide, Tryz.func90.trans (congrArg some (by kernel_rfl))⟩
  f18 := ⟨Tryz.f91.name, by decide, Tryz.func91.trans (congrArg some (by kernel_rfl))⟩
  f19 := Tryz.func92.trans (congrArg some (by kernel_rfl))
  f20 := Tryz.func93.trans (congrArg some (by kernel_rfl))
  f30 := ⟨Tryz.f108.name, by decide, Tryz.func108.trans (congrArg some (by kernel_rfl))⟩
  f31 := Tryz.func109.trans (congrArg some (by kernel_rfl))
  f32 := Tryz.func110.trans (congrArg some (by kernel_rfl))
  f33 := ⟨Tryz.f111.name, by decide, Tryz.func111.trans (congrArg some (by kernel_rfl))⟩
  f34 := ⟨Tryz.f112.name, by decide, Tryz.func112.trans (congrArg some (by kernel_rfl))⟩
  f35 := ⟨Tryz.f78.name, by decide, Tryz.func78.trans (congrArg some (by kernel_rfl))⟩
  f40 := ⟨Tryz.f126.name, by decide, Tryz.func126.trans (congrArg some (by kernel_rfl))⟩
  t0 := Tryz.underlying0
  a0 := Tryz.isAgg0
  z0 := Tryz.sizeOf0
  v0 := Tryz.zeroValue0
  t3 := Tryz.underlying3
  a3 := Tryz.isAgg3
  z3 := Tryz.sizeOf3
  v3 := Tryz.zeroValue3
  t4 := Tryz.underlying4
  a4 := Tryz.isAgg4
  z4 := Tryz.sizeOf4
  v4 := Tryz.zeroValue4
  t5 := Tryz.underlying5
  a5 := Tryz.isAgg5
  z5 := Tryz.sizeOf5
  v5 := Tryz.zeroValue5
  t9 := Tryz.underlying9
  a9 := Tryz.isAgg9
  z9 := Tryz.sizeOf9
  v9 := Tryz.zeroValue9
  t22 := Tryz.underlying63
  a22 := Tryz.isAgg63
  z22 := Tryz.sizeOf63
  v22 := Tryz.zeroValue63
  t23 := Tryz.underlying63
  a23 := Tryz.isAgg63
  z23 := Tryz.sizeOf63
  v23 := Tryz.zeroValue63
  t25 := Tryz.underlying3
  a25 := Tryz.isAgg3
  z25 := Tryz.sizeOf3
  v25 := Tryz.zeroValue3
  t32 := Tryz.underlying116
  a32 := Tryz.isAgg116
  z32 := Tryz.sizeOf116
  v32 := Tryz.zeroValue116
  t35 := Tryz.underlying130
  a35 := Tryz.isAgg130
  z35 := Tryz.sizeOf130
  v35 := Tryz.zeroValue130
  t36 := Tryz.underlying131
  a36 := Tryz.isAgg131
  z36 := Tryz.sizeOf131
  v36 := Tryz.zeroValue131
  t41 := Tryz.underlying136
  a41 := Tryz.isAgg136
  z41 := Tryz.sizeOf136
  v41 := Tryz.zeroValue136
  t44 := Tryz.underlying33
  a44 := Tryz.isAgg33
  z44 := Tryz.sizeOf33
  v44 := Tryz.zeroValue33
  t46 := Tryz.underlying122
  a46 := Tryz.isAgg122
  z46 := Tryz.sizeOf122
  v46 := Tryz.zeroValue122
  t53 := Tryz.underlying148
  a53 := Tryz.isAgg148
  z53 := Tryz.sizeOf148
  v53 := Tryz.zeroValue148
  t57 := Tryz.underlying152
  a57 := Tryz.isAgg152
  z57 := Tryz.sizeOf152
  v57 := Tryz.zeroValue152
  t63 := Tryz.underlying161
  a63 := Tryz.isAgg161
  z63 := Tryz.sizeOf161
  v63 := Tryz.zeroValue161
  t64 := Tryz.underlying80
  a64 := Tryz.isAgg80
  z64 := Tryz.sizeOf80
  v64 := Tryz.zeroValue80 }
end Go.Proofs.YtjhkcdnfnmglhaaGreatDoor

/- A contract of the library laid at this dump, in plain words. -/
namespace Go.Proofs.YtjhkcdnfnmglhaaGreatDoor
open Go.Shelf Go.Proofs
def Tryz.sortM_ren : Go.Shelf.Ren := ⟨fun | 6 => 66 | 15 => 73 | 14 => 77 | 28 => 92 | 29 => 93 | 20 => 95 | 21 => 96 | 22 => 97 | 23 => 98 | 24 => 99 | 25 => 100 | 26 => 101 | 27 => 102 | 46 => 113 | 47 => 109 | 48 => 110 | 49 => 114 | 50 => 115 | 57 => 127 | n => n, fun | 22 => 22 | 24 => 56 | 25 => 114 | 3 => 3 | 39 => 116 | 0 => 0 | 53 => 33 | 55 => 122 | 4 => 4 | 46 => 131 | 45 => 130 | 50 => 136 | 5 => 5 | 9 => 9 | 66 => 148 | 70 => 152 | 76 => 161 | 77 => 80 | n => n, fun | n => n⟩
theorem Tryz.sortM : Go.Proofs.SlLaysF0.n6 Tryz.prog Tryz.sortM_ren := {
  mixed := by kernel_rfl
  f6 := ⟨Tryz.f66.name, by decide, Tryz.func66.trans (congrArg some (by kernel_rfl))⟩
  f14 := ⟨Tryz.f77.name, by decide, Tryz.func77.trans (congrArg some (by kernel_rfl))⟩
  f15 := Tryz.func73.trans (congrArg some (by kernel_rfl))
  f20 := ⟨Tryz.f95.name, by decide, Tryz.func95.trans (congrArg some (by kernel_rfl))⟩
  f21 := ⟨Tryz.f96.name, by decide, Tryz.func96.trans (congrArg some (by kernel_rfl))⟩
  f22 := ⟨Tryz.f97.name, by decide, Tryz.func97.trans (congrArg some (by kernel_rfl))⟩
  f23 := ⟨Tryz.f98.name, by decide, Tryz.func98.trans (congrArg some (by kernel_rfl))⟩
  f24 := ⟨Tryz.f99.name, by decide, Tryz.func99.trans (congrArg some (by kernel_rfl))⟩
  f25 := ⟨Tryz.f100.name, by decide, Tryz.func100.trans (congrArg some (by kernel_rfl))⟩
  f26 := ⟨Tryz.f101.name, by decide, Tryz.func101.trans (congrArg some (by kernel_rfl))⟩
  f27 := ⟨Tryz.f102.name, by decide, Tryz.func102.trans (congrArg some (by kernel_rfl))⟩
  f28 := Tryz.func92.trans (congrArg some (by kernel_rfl))
  f29 := Tryz.func93.trans (congrArg some (by kernel_rfl))
  f46 := ⟨Tryz.f113.name, by decide, Tryz.func113.trans (congrArg some (by kernel_rfl))⟩
  f47 := Tryz.func109.trans (congrArg some (by kernel_rfl))
  f48 := Tryz.func110.trans (congrArg some (by kernel_rfl))
  f49 := ⟨Tryz.f114.name, by decide, Tryz.func114.trans (congrArg some (by kernel_rfl))⟩
  f50 := ⟨Tryz.f115.name, by decide, Tryz.func115.trans (congrArg some (by kernel_rfl))⟩
  f57 := ⟨Tryz.f127.name, by decide, Tryz.func127.trans (congrArg some (by kernel_rfl))⟩
  t0 := Tryz.underlying0
  a0 := Tryz.isAgg0
  z0 := Tryz.sizeOf0
  v0 := Tryz.zeroValue0
  t3 := Tryz.underlying3
  a3 := Tryz.isAgg3
  z3 := Tryz.sizeOf3
  v3 := Tryz.zeroValue3
  t4 := Tryz.underlying4
  a4 := Tryz.isAgg4
  z4 := Tryz.sizeOf4
  v4 := Tryz.zeroValue4
  t5 := Tryz.underlying5
  a5 := Tryz.isAgg5
  z5 := Tryz.sizeOf5
  v5 := Tryz.zeroValue5
  t9 := Tryz.underlying9
  a9 := Tryz.isAgg9
  z9 := Tryz.sizeOf9
  v9 := Tryz.zeroValue9
  t22 := Tryz.underlying22
  a22 := Tryz.isAgg22
  z22 := Tryz.sizeOf22
  v22 := Tryz.zeroValue22
  t25 := Tryz.underlying114
  a25 := Tryz.isAgg114
  z25 := Tryz.sizeOf114
  v25 := Tryz.zeroValue114
  t39 := Tryz.underlying116
  a39 := Tryz.isAgg116
  z39 := Tryz.sizeOf116
  v39 := Tryz.zeroValue116
  t45 := Tryz.underlying130
  a45 := Tryz.isAgg130
  z45 := Tryz.sizeOf130
  v45 := Tryz.zeroValue130
  t46 := Tryz.underlying131
  a46 := Tryz.isAgg131
  z46 := Tryz.sizeOf131
  v46 := Tryz.zeroValue131
  t50 := Tryz.underlying136
  a50 := Tryz.isAgg136
  z50 := Tryz.sizeOf136
  v50 := Tryz.zeroValue136
  t53 := Tryz.underlying33
  a53 := Tryz.isAgg33
  z53 := Tryz.sizeOf33
  v53 := Tryz.zeroValue33
  t55 := Tryz.underlying122
  a55 := Tryz.isAgg122
  z55 := Tryz.sizeOf122
  v55 := Tryz.zeroValue122
  t66 := Tryz.underlying148
  a66 := Tryz.isAgg148
  z66 := Tryz.sizeOf148
  v66 := Tryz.zeroValue148
  t70 := Tryz.underlying152
  a70 := Tryz.isAgg152
  z70 := Tryz.sizeOf152
  v70 := Tryz.zeroValue152
  t76 := Tryz.underlying161
  a76 := Tryz.isAgg161
  z76 := Tryz.sizeOf161
  v76 := Tryz.zeroValue161
  t77 := Tryz.underlying80
  a77 := Tryz.isAgg80
  z77 := Tryz.sizeOf80
  v77 := Tryz.zeroValue80 }
end Go.Proofs.YtjhkcdnfnmglhaaGreatDoor

/- Rows that the call owns, sorted: of ints, of mapped pages by their keys' numbers. -/
namespace Go.Proofs.YtjhkcdnfnmglhaaGreatDoor
open Go.RowKit Go.Shelf Go.Lib Go.Sort
set_option linter.unusedVariables false
set_option maxRecDepth 20000

/-! ### Ints -/
theorem insI_sorted {out : List Int} {z : Int} (h : out.Pairwise (· ≤ ·)) : (insI out z).Pairwise (· ≤ ·) := by
  induction out with
  | nil => simp [insI]
  | cons x r ih =>
    have hx := (List.pairwise_cons.1 h).1
    have hr := (List.pairwise_cons.1 h).2
    by_cases q : x < z
    · have e : insI (x :: r) z = x :: insI r z := by simp [insI, q]
      rw [e, List.pairwise_cons]
      refine ⟨fun y hy => ?_, ih hr⟩
      rcases insI_mem.1 hy with rfl | hy
      · omega
      · exact hx y hy
    · have e : insI (x :: r) z = z :: x :: r := by simp [insI, q]
      rw [e, List.pairwise_cons]
      refine ⟨fun y hy => ?_, h⟩
      rcases List.mem_cons.1 hy with rfl | hy
      · omega
      · have := hx y hy
        omega
theorem insI_perm (out : List Int) (z : Int) : (insI out z).Perm (z :: out) := by
  unfold insI
  refine (List.perm_middle).trans ?_
  rw [List.takeWhile_append_dropWhile]
theorem slots_perm : ∀ (l : List Md) (out : List Int), (l.foldl (fun out m => insI out m.s) out).Perm (l.map Md.s ++ out)
  | [], out => .refl _
  | m :: r, out => by
    rw [List.foldl_cons]
    refine (slots_perm r (insI out m.s)).trans ?_
    rw [List.map_cons, List.cons_append]
    exact ((insI_perm out m.s).append_left _).trans List.perm_middle
theorem slots_rising : ∀ (l : List Md) (out : List Int), out.Pairwise (· ≤ ·) → (l.foldl (fun out m => insI out m.s) out).Pairwise (· ≤ ·)
  | [], _, h => h
  | m :: r, out, h => slots_rising r _ (insI_sorted h)
theorem merge_slots {zs : List Int} {l : List Md} (h : zs.Perm (l.map Md.s)) : (zs.mergeSort fun x y => decide (x ≤ y)) = slotsL l := by
  refine List.Perm.eq_of_pairwise (le := fun x y => x ≤ y) (fun a b _ _ h1 h2 => Int.le_antisymm h1 h2) ?_ (slots_rising l [] List.Pairwise.nil) ?_
  · have := List.pairwise_mergeSort (le := fun x y : Int => decide (x ≤ y)) (fun a b c h1 h2 => by simp only [decide_eq_true_eq] at *; omega) (fun a b => by simp only [Bool.or_eq_true, decide_eq_true_eq]; omega) zs
    exact this.imp fun {a b} h => by simpa using h
  · refine (List.mergeSort_perm zs _).trans (h.trans ?_)
    have := slots_perm l []
    rw [List.append_nil] at this
    exact this.symm
theorem sortNums_any (w : World) (base : Nat) (e : TypeId) (v : Value) (zs ts : List Int) (hO : w.ownsRow base e 1 v zs.length (nums zs)) (hz : ∀ z ∈ ts, I64 z) (hl : zs.length ≤ 1000000) (hm : (zs.mergeSort fun x y => decide (x ≤ y)) = ts) :
    Calls Tryz.prog 58 #[v] w fun x w' => x = .returned (.tuple #[]) ∧ Nums w' v ts ∧ w.grownBy w' v.ownBlock := by
  have hlen : ts.length = zs.length := by rw [← hm]; exact List.length_mergeSort _
  rcases hO.2 with ⟨rfl, h0⟩ | ⟨g, cap, cur, rfl, hbase, hb, h1, h2, h3, h4⟩
  · have e1 : ts = [] := List.eq_nil_of_length_eq_zero (by omega)
    subst e1
    refine (AnyM.slices_Sort_int_none Tryz.sortI none 0 w).mono ?_
    rintro x w' ⟨rfl, rfl⟩
    exact ⟨rfl, Nums.nil _, ⟨rfl, rfl, rfl, Nat.le_refl _, fun _ _ _ => rfl⟩⟩
  · refine (AnyM.slices_Sort_int Tryz.sortI g 0 cap zs w (holds_of_blockI hb (by rw [Nat.mul_one] at h4; exact h4)) (Array.getElem?_eq_some_iff.1 hb).1 (by omega)).mono ?_
    rintro x w' ⟨rfl, n, os, rfl⟩
    rw [hm]
    refine ⟨rfl, ?_, grownBy_sortedI _⟩
    have := ownsRow_sortedI (os := os) (n := n) hlen hbase hb h1 h2 h3
    rw [← hlen] at this ⊢
    exact Nums.ofOwn this hz

/-! ### A key's number, with the world behind the call written out -/
theorem rightG_any (h p : Int) (w : World) :
    Calls Tryz.prog 32 #[.agg #[.int .i64 h, .int .i64 p]] w fun e w' => e = .returned (.bool (isR (h, p))) ∧ ∃ os, w' = grow w os := by
  by_cases h1 : 1 ≤ h
  · by_cases h2 : h ≤ 64
    · by_cases h3 : 0 ≤ p
      · by_cases h4 : p ≤ 4095
        · have e4 : p < 4096 := by omega
          have HK : Hid (isR (h, p) = true) := decide_eq_true ⟨h1, h2, h3, h4⟩
          go_enter Tryz.func32, Tryz.ntmps32
          go_wp2
          go_ret
          exact ⟨ret_bool HK.out.symm, _, alloc_eq_grow _ _⟩
        · have e4 : ¬ p < 4096 := by omega
          have HK : Hid (isR (h, p) = false) := decide_eq_false (fun e => h4 e.2.2.2)
          go_enter Tryz.func32, Tryz.ntmps32
          go_wp2
          go_ret
          exact ⟨ret_bool HK.out.symm, _, alloc_eq_grow _ _⟩
      · have HK : Hid (isR (h, p) = false) := decide_eq_false (fun e => h3 e.2.2.1)
        go_enter Tryz.func32, Tryz.ntmps32
        go_wp2
        go_ret
        exact ⟨ret_bool HK.out.symm, _, alloc_eq_grow _ _⟩
    · have HK : Hid (isR (h, p) = false) := decide_eq_false (fun e => h2 e.2.1)
      go_enter Tryz.func32, Tryz.ntmps32
      go_wp2
      go_ret
      exact ⟨ret_bool HK.out.symm, _, alloc_eq_grow _ _⟩
  · have HK : Hid (isR (h, p) = false) := decide_eq_false (fun e => h1 e.1)
    go_enter Tryz.func32, Tryz.ntmps32
    go_wp2
    go_ret
    exact ⟨ret_bool HK.out.symm, _, alloc_eq_grow _ _⟩
theorem grow_cells {w : World} {os : Array Obj} (a b : Value) (t : TypeId) : (grow (w.alloc (.cells #[a, b] t)) os).cell? ⟨w.heap.size, 0, none⟩ = some a ∧ (grow (w.alloc (.cells #[a, b] t)) os).cell? ⟨w.heap.size, 1, none⟩ = some b := by
  refine ⟨?_, ?_⟩ <;> rw [cell?_grow _ _ _ (by simp)] <;> simp
theorem numberG_any (h p : Int) (w : World) :
    Calls Tryz.prog 54 #[.agg #[.int .i64 h, .int .i64 p]] w fun e w' => e = .returned (.int .i64 (numK (h, p))) ∧ ∃ q os, w' = grow (w.drewN q) os := by
  have HR : Hid (∀ W, Calls Tryz.prog 32 #[.agg #[.int .i64 h, .int .i64 p]] W fun e w' => e = .returned (.bool (isR (h, p))) ∧ ∃ os, w' = grow W os) := rightG_any h p
  by_cases hr : isR (h, p) = true
  · have HN : Hid (numK (h, p) = 4096 * h + p) := by unfold Hid numK; rw [if_pos hr]
    rw [hr] at HR
    obtain ⟨b1, b2, b3, b4⟩ := isR_iff.1 hr
    simp only at b1 b2 b3 b4
    clear hr
    obtain ⟨H, rfl⟩ : ∃ H : Nat, h = (H : Int) := ⟨h.toNat, by rw [Int.toNat_of_nonneg]; omega⟩
    obtain ⟨Q, rfl⟩ : ∃ Q : Nat, p = (Q : Int) := ⟨p.toNat, by rw [Int.toNat_of_nonneg]; omega⟩
    have hH : H ≤ 64 := by omega
    have hQ : Q < 4096 := by omega
    have HO : Hid (bits .or .i64 (4096 * H : Nat) (Q : Nat) = ((4096 * H + Q : Nat) : Int)) := or_low Q H hQ hH
    have hs : ((H : Nat) : Int) * 4096 = ((4096 * H : Nat) : Int) := by omega
    obtain ⟨M, hM⟩ : ∃ M, M = 4096 * H := ⟨_, rfl⟩
    rw [← hM] at HO hs
    have hMb : M ≤ 262144 := by omega
    have HM : Hid (M = 4096 * H) := hM
    clear hM
    go_enter Tryz.func54, Tryz.ntmps54
    go_wp2_with fail
    refine (HR.out _).mono ?_
    rintro e w1 ⟨rfl, os, hw1⟩
    obtain ⟨c0, c1⟩ := grow_cells (w := w) (os := os) (.int .i64 (H : Nat)) (.int .i64 (Q : Nat)) 32
    rw [← hw1] at c0 c1
    have HB : Hid (∃ q os', w1 = grow (w.drewN q) os') := ⟨0, _, by rw [hw1, alloc_eq_grow, grow_grow]; rfl⟩
    clear hw1 HR
    go_wp2
    go_ret
    refine ⟨ret_int ?_, HB.out⟩
    rw [HN.out]
    have h1 := HO.out
    have h2 := HM.out
    first
      | (rw [h1]; omega)
      | (simp only [hs, h1]; omega)
      | trace_state
  · have HN : Hid (numK (h, p) = 0) := by unfold Hid numK; rw [if_neg hr]
    rw [Bool.eq_false_iff.2 hr] at HR
    clear hr
    go_enter Tryz.func54, Tryz.ntmps54
    go_wp2_with fail
    refine (HR.out _).mono ?_
    rintro e w1 ⟨rfl, os, hw1⟩
    have HB : Hid (∃ q os', w1 = grow (w.drewN q) os') := ⟨0, _, by rw [hw1, alloc_eq_grow, grow_grow]; rfl⟩
    clear hw1 HR
    go_wp2
    go_ret
    exact ⟨ret_int HN.out.symm, HB.out⟩

theorem Tryz.mixed12 : Tryz.prog.follows .mixedOrders = true := by kernel_rfl
/-! ### Mapped pages by their keys' numbers -/
def cmpM (a b : Md) : Int := cmpI (numK a.k) (numK b.k)
theorem ltOf_cmpM (a b : Md) : ltOf cmpM a b = decide (numK a.k < numK b.k) := by
  unfold ltOf cmpM cmpI
  by_cases h1 : numK a.k < numK b.k
  · simp [h1]
  · by_cases h2 : numK b.k < numK a.k <;> simp [h1, h2]
theorem swoM : SWO (ltOf cmpM) where
  irrefl x := by rw [ltOf_cmpM]; exact decide_eq_false (by omega)
  trans x y z h1 h2 := by
    rw [ltOf_cmpM] at *
    simp only [decide_eq_true_eq] at *
    omega
  ntrans x y z h1 h2 := by
    rw [ltOf_cmpM] at *
    simp only [decide_eq_false_iff_not] at *
    omega
theorem two_cells {w : World} {a b c d e a' b' c' d' e' : Value} {t : TypeId} (n : Nat) (os : Array Obj) :
    ((grow ((((w.alloc (.cells #[a, b, c, d, e] t)).alloc (.cells #[a', b', c', d', e'] t))).drewN n) os).cell? ⟨w.heap.size, 0, none⟩ = some a ∧ (grow ((((w.alloc (.cells #[a, b, c, d, e] t)).alloc (.cells #[a', b', c', d', e'] t))).drewN n) os).cell? ⟨w.heap.size, 1, none⟩ = some b) ∧
    (grow ((((w.alloc (.cells #[a, b, c, d, e] t)).alloc (.cells #[a', b', c', d', e'] t))).drewN n) os).cell? ⟨w.heap.size + 1, 0, none⟩ = some a' ∧ (grow ((((w.alloc (.cells #[a, b, c, d, e] t)).alloc (.cells #[a', b', c', d', e'] t))).drewN n) os).cell? ⟨w.heap.size + 1, 1, none⟩ = some b' := by
  have h1 : w.heap.size < (((w.alloc (.cells #[a, b, c, d, e] t)).alloc (.cells #[a', b', c', d', e'] t)).drewN n).heap.size := by show _ < ((w.alloc (.cells #[a, b, c, d, e] t)).alloc (.cells #[a', b', c', d', e'] t)).heap.size; simp; omega
  have h2 : w.heap.size + 1 < (((w.alloc (.cells #[a, b, c, d, e] t)).alloc (.cells #[a', b', c', d', e'] t)).drewN n).heap.size := by show _ < ((w.alloc (.cells #[a, b, c, d, e] t)).alloc (.cells #[a', b', c', d', e'] t)).heap.size; simp
  refine ⟨⟨?_, ?_⟩, ?_, ?_⟩
  · rw [cell?_grow _ _ _ h1]
    show ((w.alloc (.cells #[a, b, c, d, e] t)).alloc (.cells #[a', b', c', d', e'] t)).cell? _ = _
    simp
  · rw [cell?_grow _ _ _ h1]
    show ((w.alloc (.cells #[a, b, c, d, e] t)).alloc (.cells #[a', b', c', d', e'] t)).cell? _ = _
    simp
  · rw [cell?_grow _ _ _ h2]
    show ((w.alloc (.cells #[a, b, c, d, e] t)).alloc (.cells #[a', b', c', d', e'] t)).cell? _ = _
    simp
  · rw [cell?_grow _ _ _ h2]
    show ((w.alloc (.cells #[a, b, c, d, e] t)).alloc (.cells #[a', b', c', d', e'] t)).cell? _ = _
    simp
theorem cmpMd_any (a b : Md) (w : World) :
    Calls Tryz.prog 67 #[.agg (encM a).toArray, .agg (encM b).toArray] w fun e w' => e = .returned (.int .i64 (cmpM a b)) ∧ ∃ q os, w' = grow (w.drewN q) os := by
  obtain ⟨ah, ap, az, ag, au⟩ := a
  obtain ⟨bh, bp, bz, bg, bu⟩ := b
  have HC : Hid (cmpM ⟨ah, ap, az, ag, au⟩ ⟨bh, bp, bz, bg, bu⟩ = cmpI (numK (ah, ap)) (numK (bh, bp))) := rfl
  rw [HC.out]
  clear HC
  show Calls Tryz.prog 67 #[.agg #[.int .i64 ah, .int .i64 ap, .int .i64 az, .int .i64 ag, .int .u32 (au : Nat)], .agg #[.int .i64 bh, .int .i64 bp, .int .i64 bz, .int .i64 bg, .int .u32 (bu : Nat)]] w _
  have HN1 : Hid (∀ W, Calls Tryz.prog 54 #[.agg #[.int .i64 ah, .int .i64 ap]] W fun e w' => e = .returned (.int .i64 (numK (ah, ap))) ∧ ∃ q os, w' = grow (W.drewN q) os) := numberG_any ah ap
  have HN2 : Hid (∀ W, Calls Tryz.prog 54 #[.agg #[.int .i64 bh, .int .i64 bp]] W fun e w' => e = .returned (.int .i64 (numK (bh, bp))) ∧ ∃ q os, w' = grow (W.drewN q) os) := numberG_any bh bp
  generalize numK (ah, ap) = NA at *
  generalize numK (bh, bp) = NB at *
  have HCM : Hid (∀ W, Calls Tryz.prog 68 #[.int .i64 NA, .int .i64 NB] W fun e w' => e = .returned (.int .i64 (cmpI NA NB)) ∧ w' = W) := fun W => compare_any NA NB W
  go_enter Tryz.func67, Tryz.ntmps67
  go_wp2_with fail
  have HT : Hid (∀ n os, _) := fun n os => two_cells (w := w) (a := .int .i64 ah) (b := .int .i64 ap) (c := .int .i64 az) (d := .int .i64 ag) (e := .int .u32 (au : Nat)) (a' := .int .i64 bh) (b' := .int .i64 bp) (c' := .int .i64 bz) (d' := .int .i64 bg) (e' := .int .u32 (bu : Nat)) (t := 56) n os
  obtain ⟨W, hW⟩ : ∃ W, W = (w.alloc (.cells #[.int .i64 ah, .int .i64 ap, .int .i64 az, .int .i64 ag, .int .u32 (au : Nat)] 56)).alloc (.cells #[.int .i64 bh, .int .i64 bp, .int .i64 bz, .int .i64 bg, .int .u32 (bu : Nat)] 56) := ⟨_, rfl⟩
  have HG : Hid (∀ n os, ∃ q os', grow (W.drewN n) os = grow (w.drewN q) os') := fun n os => by
    rw [hW, alloc_eq_grow, alloc_eq_grow, grow_grow]
    exact ⟨n, _, grow_grow (w.drewN n) _ os⟩
  rw [← hW] at HT ⊢
  clear hW
  obtain ⟨X, hX⟩ : ∃ X, X = w.heap.size := ⟨_, rfl⟩
  obtain ⟨Y, hY⟩ : ∃ Y, Y = X + 1 := ⟨_, rfl⟩
  rw [← hX, ← hY] at HT
  rw [← hX]
  try rw [← hY]
  have l0 := fun n os => (HT.out n os).1.1
  have l1 := fun n os => (HT.out n os).1.2
  have l2 := fun n os => (HT.out n os).2.1
  have l3 := fun n os => (HT.out n os).2.2
  clear hX hY
  have k1 : ∀ n os, Calls Tryz.prog 54 #[.agg #[.int .i64 ah, .int .i64 ap]] (grow (W.drewN n) os) fun e w'' => e = .returned (.int .i64 NA) ∧ ∃ p : GrownBy, w'' = grow (W.drewN p.n) p.os := fun n os => Calls.grown_of (HN1.out _)
  have k2 : ∀ n os, Calls Tryz.prog 54 #[.agg #[.int .i64 bh, .int .i64 bp]] (grow (W.drewN n) os) fun e w'' => e = .returned (.int .i64 NB) ∧ ∃ p : GrownBy, w'' = grow (W.drewN p.n) p.os := fun n os => Calls.grown_of (HN2.out _)
  have k3 : ∀ n os, Calls Tryz.prog 68 #[.int .i64 NA, .int .i64 NB] (grow (W.drewN n) os) fun e w'' => e = .returned (.int .i64 (cmpI NA NB)) ∧ ∃ p : GrownBy, w'' = grow (W.drewN p.n) p.os := fun n os => (HCM.out _).mono fun _ _ ⟨he, hw⟩ => ⟨he, ⟨n, os⟩, hw⟩
  have mixed := Tryz.mixed12
  clear HN1 HN2 HCM HT
  go_quiet_grown ((first | (go_at_call 54; first | with_reducible exact k1 _ _ | with_reducible exact k2 _ _) | (go_at_call 68; with_reducible exact k3 _ _)))
  clear l0 l1 l2 l3 k1 k2 k3
  go_wp2
  go_ret
  exact ⟨rfl, HG.out _ _⟩
end Go.Proofs.YtjhkcdnfnmglhaaGreatDoor

/- slices.SortFunc over mapped pages: by their keys' numbers. -/
namespace Go.Proofs.YtjhkcdnfnmglhaaGreatDoor
open Go.RowKit Go.Shelf Go.Lib Go.Sort
set_option linter.unusedVariables false
set_option maxRecDepth 20000

theorem numK_lt {a b : Ky} (ha : isR a = true) (hb : isR b = true) (h : KLt a b) : numK a < numK b := by
  obtain ⟨a1, a2⟩ := a
  obtain ⟨b1, b2⟩ := b
  have x := isR_iff.1 ha
  have y := isR_iff.1 hb
  unfold numK
  rw [if_pos ha, if_pos hb]
  unfold KLt at h
  simp only at *
  omega
theorem numK_inj {a b : Ky} (ha : isR a = true) (hb : isR b = true) (h : numK a = numK b) : a = b := by
  obtain ⟨a1, a2⟩ := a
  obtain ⟨b1, b2⟩ := b
  have x := isR_iff.1 ha
  have y := isR_iff.1 hb
  unfold numK at h
  rw [if_pos ha, if_pos hb] at h
  simp only at *
  have e1 : a1 = b1 := by omega
  have e2 : a2 = b2 := by omega
  rw [e1, e2]
theorem md_ext {l : List Md} (hn : (l.map Md.k).Nodup) {a b : Md} (ha : a ∈ l) (hb : b ∈ l) (e : a.k = b.k) : a = b := by
  have h1 := mem_find hn ha
  have h2 := mem_find hn hb
  rw [e, h2] at h1
  simp only [Option.some.injEq, Prod.mk.injEq] at h1
  obtain ⟨q1, q2, q3, q4, q5⟩ := a
  obtain ⟨r1, r2, r3, r4, r5⟩ := b
  simp only [Md.k, Prod.mk.injEq] at e h1
  obtain ⟨x1, x2⟩ := e
  obtain ⟨x3, x4, x5⟩ := h1
  subst x1 x2 x3 x4 x5
  rfl
/-- A sorted row, some order of a list by rising keys, is that list. -/
theorem sorted_is [Inhabited Md] {ss T : List Md} {d : Array Md} (hp : ss.Perm T) (hT : Rise T) (hr : ∀ k ∈ T.map Md.k, isR k = true) (hP : PermIn 0 ss.toArray.size ss.toArray d) (hS : SortedIn (ltOf cmpM) 0 ss.toArray.size d) : d.toList = T := by
  obtain ⟨hsz, _, hperm⟩ := hP
  have e1 : d.extract 0 ss.toArray.size = d := by rw [← hsz]; exact Array.extract_size
  rw [e1, Array.extract_size] at hperm
  have hdT : d.toList.Perm T := hperm.trans hp
  have hin : ∀ m ∈ T, isR m.k = true := fun m hm => hr _ (List.mem_map.2 ⟨m, hm, rfl⟩)
  refine List.Perm.eq_of_pairwise (le := fun x y => numK x.k ≤ numK y.k) (fun a b ha hb h1 h2 => ?_) ?_ ?_ hdT
  · have ha' := hdT.mem_iff.1 ha
    exact md_ext hT.nodup ha' hb (numK_inj (hin a ha') (hin b hb) (Int.le_antisymm h1 h2))
  · rw [List.pairwise_iff_getElem]
    intro i j hi hj hij
    have hi' : i < d.size := by simpa using hi
    have hj' : j < d.size := by simpa using hj
    have := hS i j (Nat.zero_le _) hij (by rw [← hsz]; exact hj')
    rw [getElem!_pos d j hj', getElem!_pos d i hi', ltOf_cmpM] at this
    have h3 := of_decide_eq_false this
    simp only [Array.getElem_toList]
    omega
  · have h1 : T.Pairwise fun a b => KLt a.k b.k := List.pairwise_map.1 hT
    exact List.Pairwise.imp_of_mem (fun {a b} ha hb h => Int.le_of_lt (numK_lt (hin a ha) (hin b hb) h)) h1
theorem encM_at (m : Md) : (encM m)[0]! = .int .i64 m.h ∧ (encM m)[1]! = .int .i64 m.p ∧ (encM m)[2]! = .int .i64 m.s ∧ (encM m)[3]! = .int .i64 m.g ∧ (encM m)[4]! = .int .u32 (m.u : Nat) := ⟨rfl, rfl, rfl, rfl, rfl⟩
theorem flatM_at [Inhabited Md] (ss : List Md) (j : Nat) (hj : j < ss.length * 5) : (flatK encM 5 ss.toArray)[j]! = (ecells encM ss)[j]?.getD undef := by
  rw [get_flatK _ _ _ _ (by simpa using hj)]
  have h1 : j / 5 < ss.length := by omega
  have hk : ss[j / 5]? = some ss[j / 5] := List.getElem?_eq_getElem h1
  have hg : (ss.toArray)[j / 5]! = ss[j / 5] := by simp [h1]
  rw [hg]
  have hm : j % 5 < (encM ss[j / 5]).length := by show _ < 5; omega
  have hc := ecells_at encM_ok ss (j / 5) _ hk (j % 5) _ (List.getElem?_eq_getElem hm)
  rw [show j / 5 * 5 + j % 5 = j by omega] at hc
  rw [hc, Option.getD_some, getElem!_pos (encM ss[j / 5]) (j % 5) hm]
theorem holds_ownM [Inhabited Md] {w : World} {g : Nat} {cur : Array Value} {e : TypeId} {ss : List Md} (hb : w.heap[g]? = some (.cells cur e (0, 0))) (h4 : cur.toList.take (ss.length * 5) = ecells encM ss) : HoldsK encM 5 w g 0 ss.toArray := by
  intro j hj
  have hj' : j < ss.length * 5 := by simpa using hj
  have hlen := ecells_length encM_ok ss
  have hat : cur[j]? = some ((ecells encM ss)[j]?.getD undef) := by
    have h5 : (ecells encM ss)[j]? = some (ecells encM ss)[j] := List.getElem?_eq_getElem (by omega)
    rw [h5, Option.getD_some, ← h5, ← h4, List.getElem?_take_of_lt hj', Array.getElem?_toList]
  refine ⟨?_, ?_⟩
  · show w.cell? ⟨g, 0 + j, none⟩ = some (id (flatK encM 5 ss.toArray)[j]!)
    rw [flatM_at ss j hj', Nat.zero_add]
    simp [World.cell?, hb, hat]
  · simp [World.frozen?, hb]
theorem els_heldM [Inhabited Md] {w : World} {g cap : Nat} {ss : List Md} (h : HoldsK encM 5 w g 0 ss.toArray) (hg : g < w.heap.size) (h1 : ss.length ≤ cap) (h2 : cap ≤ maxLen) : Els encM 5 w (.slice (some ⟨g, 0, none⟩) ss.length cap) ss := by
  refine ⟨Nat.le_trans h1 h2, _, cap, rfl, h1, h2, .inr ⟨_, rfl, .inr ⟨g, 0, rfl, hg, fun j y hj i u hi => ?_⟩⟩⟩
  have hjl : j < ss.length := (List.getElem?_eq_some_iff.1 hj).1
  have hget : (ss.toArray)[j]! = y := by
    rw [List.getElem?_eq_getElem hjl] at hj
    simpa [hjl] using hj
  have hil : i < 5 := (List.getElem?_eq_some_iff.1 hi).1
  have a := (h.cell (i := j) (c := i) (by simpa using hjl) hil).1
  rw [hget] at a
  rw [a, getElem!_pos (encM y) i (by exact hil)]
  rw [List.getElem?_eq_getElem (by exact hil)] at hi
  exact hi
theorem heap_sortedM [Inhabited Md] (w : World) (blk off n : Nat) (d : Array Md) (os : Array Obj) : w.grownBy (sortWorldK encM 5 w blk off n d os) (some blk) := by
  refine ⟨rfl, rfl, rfl, ?_, fun i hi hne => ?_⟩
  · simp [sortWorldK, putRowK, putRow, mapBlock, Sort.grow]
  · have hne' : blk ≠ i := fun e => hne (by rw [e])
    simp only [sortWorldK, Sort.grow, putRowK, putRow, mapBlock]
    rw [Array.getElem?_append_left (by simpa using hi), Array.getElem?_modify, if_neg hne']
    rfl
theorem layM [Inhabited Md] (blk off size : Nat) (w : World) : CmpLays Tryz.prog 67 #[] encM 5 cmpM blk off size w :=
  fun _ _ _ _ x y => cmpMd_any x y _
set_option maxHeartbeats 1000000 in
theorem sortMds_any (w : World) (base : Nat) (v : Value) (ss T : List Md) (hO : w.ownsRow base 56 5 v ss.length (ecells encM ss)) (hl : ss.length ≤ 1000000) (hp : ss.Perm T) (hT : Rise T) (hr : ∀ k ∈ T.map Md.k, isR k = true) :
    Calls Tryz.prog 66 #[v, .func (.func 67) #[] #[]] w fun x w' => x = .returned (.tuple #[]) ∧ Els encM 5 w' v T ∧ w.grownBy w' v.ownBlock := by
  haveI : Inhabited Md := ⟨⟨0, 0, 0, 0, 0⟩⟩
  have hlen : T.length = ss.length := hp.symm.length_eq
  rcases hO.2 with ⟨rfl, h0⟩ | ⟨g, cap, cur, rfl, hbase, hb, h1, h2, h3, h4⟩
  · have e1 : T = [] := List.eq_nil_of_length_eq_zero (by omega)
    subst e1
    rw [h0] at hO
    refine (AnyF.slices_SortFunc_none Tryz.sortM none 0 _ w).mono ?_
    rintro x w' ⟨rfl, rfl⟩
    exact ⟨rfl, Els.nil _, ⟨rfl, rfl, rfl, Nat.le_refl _, fun _ _ _ => rfl⟩⟩
  · have hgl : g < w.heap.size := (Array.getElem?_eq_some_iff.1 hb).1
    have hH : HoldsK encM 5 w g 0 ss.toArray := holds_ownM hb h4
    have eg : ∀ args w, (callFunc 67 args).run Tryz.prog w = .ok (.enter 67 args) w := enters_of Tryz.func67 (by kernel_rfl) rfl
    have key := AnyQ.slices_SortFunc Tryz.sortM 5 Tryz.isAgg56 Tryz.sizeOf56 encM (fun _ => rfl) (fun x v hv => encM_ok.one x v hv) cmpM swoM 67 #[] g 0 cap ss.toArray w eg (layM g 0 ss.toArray.size w) hH hgl (by simp; omega)
    rw [List.size_toArray] at key
    refine key.mono ?_
    rintro x w' ⟨rfl, d, n, os, hP, hS, rfl⟩
    have hd : d = T.toArray := by
      rw [← sorted_is hp hT hr (by rw [List.size_toArray]; exact hP) (by rw [List.size_toArray]; exact hS)]
    subst hd
    have hgr := heap_sortedM w g 0 n T.toArray os
    refine ⟨rfl, ?_, hgr⟩
    have hh : HoldsK encM 5 (sortWorldK encM 5 w g 0 n T.toArray os) g 0 T.toArray :=
      SWK.holds (w0 := w) (d0 := ss.toArray) ⟨n, os, rfl⟩ hgl hH (by simp [hlen])
    have := els_heldM (cap := cap) hh (Nat.lt_of_lt_of_le hgl hgr.size) (by rw [hlen]; exact h1) h2
    rwa [hlen] at this
end Go.Proofs.YtjhkcdnfnmglhaaGreatDoor

/- Contract of overlay.placesOf. -/
namespace Go.Proofs.YtjhkcdnfnmglhaaGreatDoor
open Go.RowKit Go.Maps
set_option linter.unusedVariables false
set_option maxRecDepth 20000

theorem slots_i64 {l : List Md} (h : ∀ m ∈ l, I64 m.s) : ∀ z ∈ slotsL l, I64 z := fun z hz => by
  obtain ⟨m, hm, e⟩ := slots_mem.1 hz
  exact e ▸ h m hm
set_option maxHeartbeats 4000000 in
theorem places12_any (w : World) (X : Nat) (l : List Md) (hM : MapL w X l) (hl : l.length ≤ 1000) (hs : ∀ m ∈ l, I64 m.s) :
    Calls Tryz.prog 29 #[.map (some X)] w fun e w' => ∃ u, e = .returned u ∧ Nums w' u (slotsL l) ∧ Below w.heap.size w w' ∧ ∀ g, u.ownBlock = some g → w.heap.size ≤ g := by
  obtain ⟨D, hown, hD⟩ := hM
  have HD : Hid (EntL D l) := hD
  have HSD : Hid (Maps.size D ≤ 1000) := by unfold Hid; rw [hD.size]; exact hl
  have HXL : Hid (X < w.heap.size) := hown.lt
  have HSI : Hid (∀ m ∈ l, I64 m.s) := hs
  obtain ⟨i0, hi, hz0, hz1, hz2⟩ := info_parts Tryz.infoI64
  obtain ⟨n, hn⟩ : ∃ n, n = l.length := ⟨_, rfl⟩
  rw [← hn] at hown
  clear hD hs hl hn
  go_enter Tryz.func29, Tryz.ntmps29
  go_wp2_with (first
    | (at_range; refine wpList_range_own _ rfl _ 68 rfl 32 37 lawK Tryz.underlying68 entR X n D rfl hown ?_; intro w0 hrg0 hg0 hs0)
    | go_in)
  go_frame
  obtain ⟨R, hR⟩ : ∃ R, R = w.heap.size := ⟨_, rfl⟩
  have HR : Hid (R = w.heap.size) := hR
  rw [← hR] at hrg0 hs0
  rw [← hR]
  try rw [← hR]
  clear hR
  go_loopw [3] (fun v wr => ∃ (left : Lit → Bool) (cnt : Nat) (ss : List Md), wr.ranges Tryz.prog 32 entR X R n D left cnt ∧ ss.length + cnt ≤ Maps.size D ∧
      wr.ownsRow (R + 1) 3 1 v ss.length (nums (ss.map Md.s)) ∧ Hid (MetL l left ss) ∧ Hid (Below R w wr) ∧ R + 1 ≤ wr.heap.size)
    (fun _ wr => wr.rangeLeft X R)
  case atStart =>
    exact ⟨_, _, [], hrg0, by simp, World.ownsRow_nil _ _ _ _, MetL.start HD.out, (Below.refl R w).grown hg0 (by have := HR.out; omega) (fun j hj => by cases hj), by omega⟩
  case round =>
    obtain ⟨left, cnt, ss, hrg, hcs, hrow, HM, HB, hsz⟩ := hrel
    have HRG : Hid (wr.ranges Tryz.prog 32 entR X R n D left cnt) := hrg
    have HRO : Hid (wr.ownsRow (R + 1) 3 1 u3 ss.length (nums (ss.map Md.s))) := hrow
    have HCS : Hid (ss.length + cnt ≤ Maps.size D) := hcs
    have HSW : Hid (R + 1 ≤ wr.heap.size) := hsz
    clear hrg hrow hcs hsz hown hrg0 hg0 hs0
    go_wp2_with (first
      | (at_next; refine wpList_next_ranges _ rfl _ rfl 32 lawK entR (fun x : Ky => Value.agg #[.int .i64 x.1, .int .i64 x.2]) evalE invK10 invV11 X R n _ _ _ rfl HRG.out ?_ ?_)
      | go_in)
    · intro hc0 hl0
      have HALL : Hid (ss.Perm l) := HM.out.all HD.out.fit HD.out.rise hl0
      have HSL : Hid (ss.length ≤ 1000) := by have := HCS.out; have := HSD.out; unfold Hid; omega
      have HSO : Hid (Calls Tryz.prog 58 #[u3] wr fun x w' => x = .returned (.tuple #[]) ∧ Nums w' u3 (slotsL l) ∧ wr.grownBy w' u3.ownBlock) := by
        refine sortNums_any wr (R + 1) 3 u3 (ss.map Md.s) (slotsL l) ?_ (slots_i64 HSI.out) ?_ (merge_slots (HALL.out.map Md.s))
        · rw [List.length_map]; exact HRO.out
        · rw [List.length_map]; have := HSL.out; omega
      have HBW : Hid (Below w.heap.size w wr) := by rw [← HR.out]; exact HB.out
      have HBW2 : Hid (∀ w', wr.grownBy w' u3.ownBlock → Below w.heap.size w w') := fun w' hg => HBW.out.grown hg (by have := HSW.out; have := HR.out; omega) (fun j hj => by have := (HRO.out.lt j hj).1; have := HR.out; omega)
      have HLB : Hid (∀ g, u3.ownBlock = some g → w.heap.size ≤ g) := fun g hg => by have := (HRO.out.lt g hg).1; have := HR.out; omega
      clear hc0 hl0 HRG HRO HM HSL HALL HCS
      go_wp2_with fail
      refine HSO.out.mono ?_
      rintro e w5 ⟨rfl, hn5, hg5⟩
      have HN5 : Hid (Nums w5 u3 (slotsL l)) := hn5
      have HB5 : Hid (Below w.heap.size w w5) := HBW2.out w5 hg5
      clear hn5 hg5 HSO
      go_wp2
      go_ret
      exact ⟨_, rfl, HN5.out, HB5.out, HLB.out⟩
    · intro h p s g u kl yd yp w2 cnt2 hkey hlk hv hat hrg2 hlt hg2 hs2 hen
      obtain ⟨x, hx', ex, rfl⟩ := keyOf_inv hkey
      obtain ⟨h', p'⟩ := x
      simp only [Value.agg.injEq, Array.mk.injEq, List.cons.injEq, Value.int.injEq, true_and, and_true] at ex
      obtain ⟨rfl, rfl⟩ := ex
      obtain ⟨⟨s', g', u'⟩, ev, ey⟩ := entR_inv hv
      simp only [evalE, Value.agg.injEq, Array.mk.injEq, List.cons.injEq, Value.int.injEq, true_and, and_true] at ev
      obtain ⟨rfl, rfl, e3⟩ := ev
      obtain rfl : u = u' := by omega
      clear e3
      simp only [Prod.mk.injEq] at ey
      obtain ⟨rfl, rfl⟩ := ey
      have HF : Hid (findM l (h, p) = some (s, g, u)) := HD.out.at_ hx' hat
      have HM2 : Hid (MetL l (fun z => left z && !z.sameKey (klit (h, p))) (ss ++ [md (h, p) (s, g, u)])) := HM.out.step (D := D) hx' hlk HF.out
      have HIS : Hid (I64 s) := HSI.out _ (find_mem HF.out)
      have HSS : Hid ((ss ++ [md (h, p) (s, g, u)]).map Md.s = ss.map Md.s ++ [s]) := by unfold Hid; rw [List.map_append]; rfl
      have hne2 : u3.ownBlock ≠ some R := fun e => by have := (HRO.out.lt R e).1; omega
      have HRO2 : Hid (w2.ownsRow (R + 1) 3 1 u3 ss.length (nums (ss.map Md.s))) := HRO.out.kept hg2 (Or.inr hne2)
      have HB2 : Hid (Below R w w2) := HB.out.grown hg2 (by have := HSW.out; omega) (fun j hj => by cases hj; exact Nat.le_refl _)
      have HS2 : Hid (R + 1 ≤ w2.heap.size) := Nat.le_trans HSW.out hg2.size
      have HRG2 : Hid (w2.ranges Tryz.prog 32 entR X R n D (fun z => left z && !z.sameKey (klit (h, p))) cnt2) := hrg2
      have HLT : Hid (cnt2 < cnt) := hlt
      have HLB : Hid (u3.ownBlock ≠ some R ∧ u3.ownBlock ≠ some X) := ⟨hne2, fun e => by have := (HRO.out.lt X e).1; have := HXL.out; have := HR.out; omega⟩
      clear hkey hlk hv hat hrg2 hlt hg2 hs2 hx' HM HRO HB HSW hne2 HF
      have HK1 : Hid (Nums ((w2.alloc (.cells #[.int .i64 s, .int .i64 g, .int .u32 (u : Nat)] 37)).alloc (.cells #[.int .i64 s] 3)) (.slice (some ⟨w2.heap.size + 1, 0, none⟩) 1 1) [s]) := by
        have h1 := Nums.one (w := w2.alloc (.cells #[.int .i64 s, .int .i64 g, .int .u32 (u : Nat)] 37)) (e := 3) HIS.out
        have e1 : (w2.alloc (.cells #[.int .i64 s, .int .i64 g, .int .u32 (u : Nat)] 37)).heap.size = w2.heap.size + 1 := by simp
        rwa [e1] at h1
      have HBa : Hid (Below R w ((w2.alloc (.cells #[.int .i64 s, .int .i64 g, .int .u32 (u : Nat)] 37)).alloc (.cells #[.int .i64 s] 3))) := (HB2.out.alloc (by have := HS2.out; omega) _).alloc (by have := HS2.out; simp; omega) _
      have HRa : Hid (((w2.alloc (.cells #[.int .i64 s, .int .i64 g, .int .u32 (u : Nat)] 37)).alloc (.cells #[.int .i64 s] 3)).ranges Tryz.prog 32 entR X R n D (fun z => left z && !z.sameKey (klit (h, p))) cnt2) := (HRG2.out.alloc _).alloc _
      go_wp2_with (first
        | (at_builtin; refine wpList_append_nums _ rfl _ _ 63 (by rfl) (R + 1) 3 i0 Tryz.underlying63 hi hz0 hz1 hz2 u3 ss.length (ss.map Md.s) (by rfl) ((HRO2.out.alloc _).alloc _) (.slice (some ⟨w2.heap.size + 1, 0, none⟩) 1 1) [s] (by rfl) HK1.out (by have := HCS.out; have := HSD.out; simp; omega) (by have := HS2.out; simp; omega) ?_; intro v5 w5 hown5 hg5 hat5; go_frame)
        | go_in)
      have HRG5 : Hid (w5.ranges Tryz.prog 32 entR X R n D (fun z => left z && !z.sameKey (klit (h, p))) cnt2) := HRa.out.kept hg5 (fun e => HLB.out.2 e.symm) (fun e => HLB.out.1 e.symm)
      have HB5 : Hid (Below R w w5) := HBa.out.grown hg5 (by have := HS2.out; simp; omega) (fun j hj => by have := (HRO2.out.lt j hj).1; omega)
      have hm1 := HRG5.out.left_eq
      have hm2 := HRG.out.left_eq
      have HS5 : Hid (R + 1 ≤ w5.heap.size) := Nat.le_trans (by have := HS2.out; simp; omega) hg5.size
      have HO5 : Hid (w5.ownsRow (R + 1) 3 1 v5 (ss ++ [md (h, p) (s, g, u)]).length (nums ((ss ++ [md (h, p) (s, g, u)]).map Md.s))) := by unfold Hid; rw [HSS.out, List.length_append]; exact hown5
      clear hown5 hg5 hat5
      go_roundw
      case rel =>
        exact ⟨_, cnt2, ss ++ [md (h, p) (s, g, u)], HRG5.out, by have := HCS.out; have := HLT.out; simp; omega, HO5.out, HM2.out, HB5.out, HS5.out⟩
      case measure => rw [hm1, hm2]; exact HLT.out
end Go.Proofs.YtjhkcdnfnmglhaaGreatDoor

/- Contract of overlay.listOf. -/
namespace Go.Proofs.YtjhkcdnfnmglhaaGreatDoor
open Go.RowKit Go.Maps
set_option linter.unusedVariables false
set_option maxRecDepth 20000

/-- The value is a slice of maps that hold these lists. -/
def Pgs (w : World) (v : Value) (Ls : List (Nat × List Md)) : Prop :=
  ∃ g, v = .slice (some ⟨g, 0, none⟩) Ls.length Ls.length ∧ g < w.heap.size ∧ ∀ j b l, Ls[j]? = some (b, l) → w.cell? ⟨g, j, none⟩ = some (.map (some b)) ∧ MapL w b l
theorem Pgs.at_ {w w' : World} {g n : Nat} {Ls : List (Nat × List Md)} (h : Pgs w (.slice (some ⟨g, 0, none⟩) n n) Ls) (hb : Below w.heap.size w w') {j : Nat} {b : Nat} {l : List Md} (hj : Ls[j]? = some (b, l)) : w'.cell? ⟨g, j, none⟩ = some (.map (some b)) ∧ MapL w' b l := by
  obtain ⟨g', e, hg, hc⟩ := h
  simp only [Value.slice.injEq, Option.some.injEq, Addr.mk.injEq, and_true] at e
  obtain ⟨rfl, _⟩ := e
  obtain ⟨h1, h2⟩ := hc j b l hj
  exact ⟨(hb.cell (p := ⟨g, j, none⟩) hg).trans h1, h2.kept hb⟩
theorem els_three {w : World} (o1 o2 : Obj) (x : Md) (e : TypeId) : Els encM 5 (((w.alloc o1).alloc o2).alloc (.cells #[.int .i64 x.h, .int .i64 x.p, .int .i64 x.s, .int .i64 x.g, .int .u32 (x.u : Nat)] e)) (.slice (some ⟨w.heap.size + 2, 0, none⟩) 1 1) [x] := by
  have h1 := Els.one encM_ok (w := (w.alloc o1).alloc o2) (x := x) (e := e)
  have e1 : ((w.alloc o1).alloc o2).heap.size = w.heap.size + 2 := by simp
  rw [e1] at h1
  exact h1
theorem flat_snoc {Ls : List (Nat × List Md)} {j : Nat} {b : Nat} {l : List Md} (h : Ls[j]? = some (b, l)) : (Ls.take (j + 1)).flatMap (·.2) = (Ls.take j).flatMap (·.2) ++ l := by
  rw [take_snocA h, List.flatMap_append]
  simp
set_option maxHeartbeats 4000000 in
theorem list12_any (w : World) (v : Value) (Ls : List (Nat × List Md)) (T : List Md) (hv : Pgs w v Ls) (hl : ∀ x ∈ Ls, x.2.length ≤ 1000) (hn : Ls.length ≤ 2) (hp : (Ls.flatMap (·.2)).Perm T) (hT : Rise T) (hr : ∀ k ∈ T.map Md.k, isR k = true) :
    Calls Tryz.prog 50 #[v] w fun e w' => ∃ u, e = .returned u ∧ Els encM 5 w' u T ∧ Below w.heap.size w w' ∧ ∀ g, u.ownBlock = some g → w.heap.size ≤ g := by
  obtain ⟨G, hv0, hG, hcell⟩ := id hv
  subst hv0
  obtain ⟨N, hN⟩ : ∃ N, N = Ls.length := ⟨_, rfl⟩
  rw [← hN] at hv hn ⊢
  have HN : Hid (N = Ls.length) := hN
  have HV : Hid (Pgs w (.slice (some ⟨G, 0, none⟩) N N) Ls) := hv
  have HL : Hid (∀ x ∈ Ls, x.2.length ≤ 1000) := hl
  have HG : Hid (G < w.heap.size) := hG
  have HP : Hid ((Ls.flatMap (·.2)).Perm T) := hp
  have HTR : Hid (Rise T) := hT
  have HRR : Hid (∀ k ∈ T.map Md.k, isR k = true) := hr
  obtain ⟨i1, hi1, hz3, hz4, hz5⟩ := info_parts Tryz.infoM11
  clear hN hv hl hG hp hT hr hcell
  go_enter Tryz.func50, Tryz.ntmps50
  go_wp2_with fail
  go_loopw [3, 10] (fun v i wr => ∃ (k : Nat) (ss : List Md), i = .int .i64 (k : Nat) ∧ k ≤ N ∧ ss.length ≤ k * 1000 ∧ wr.ownsRow w.heap.size 56 5 v ss.length (ecells encM ss) ∧ Hid (ss.Perm ((Ls.take k).flatMap (·.2))) ∧ Hid (Below w.heap.size w wr)) (fun _ i _ => N - (intOf i).toNat)
  case atStart => exact ⟨0, [], rfl, Nat.zero_le _, by simp, World.ownsRow_nil _ _ _ _, by simp [Hid], Below.refl _ _⟩
  case round =>
    obtain ⟨k, ss, rfl, hk, hsl, hrow, HPM, HB⟩ := hrel
    have HRO : Hid (wr.ownsRow w.heap.size 56 5 u3 ss.length (ecells encM ss)) := hrow
    have HSL : Hid (ss.length ≤ k * 1000) := hsl
    clear hrow hsl
    by_cases hlt : k < N
    · obtain ⟨⟨X, l⟩, hkk⟩ : ∃ x, Ls[k]? = some x := ⟨_, List.getElem?_eq_getElem (by rw [← HN.out]; exact hlt)⟩
      obtain ⟨c0, hM⟩ := HV.out.at_ HB.out hkk
      have HLX : Hid (l.length ≤ 1000) := HL.out _ (List.mem_of_getElem? hkk)
      have HFL : Hid ((Ls.take (k + 1)).flatMap (·.2) = (Ls.take k).flatMap (·.2) ++ l) := flat_snoc hkk
      have HXL : Hid (X < w.heap.size) := by obtain ⟨_, h2⟩ := HV.out.at_ (Below.refl _ _) hkk; exact h2.lt
      obtain ⟨D, hown, hD⟩ := hM
      have HD : Hid (EntL D l) := hD
      have HSD : Hid (Maps.size D ≤ 1000) := by unfold Hid; rw [hD.size]; exact HLX.out
      obtain ⟨n, hn⟩ : ∃ n, n = l.length := ⟨_, rfl⟩
      rw [← hn] at hown
      clear hkk hD hn
      go_wp2_with (first
        | (at_range; refine wpList_range_own _ rfl _ 68 rfl 32 37 lawK Tryz.underlying68 entR X n D rfl hown ?_; intro w0 hrg0 hg0 hs0)
        | go_in)
      try go_frame
      obtain ⟨R, hR⟩ : ∃ R, R = wr.heap.size := ⟨_, rfl⟩
      have HR : Hid (R = wr.heap.size) := hR
      rw [← hR] at hrg0 hs0
      rw [← hR]
      try rw [← hR]
      have HRW : Hid (w.heap.size ≤ R) := by rw [hR]; exact HB.out.size
      have HUR : Hid (u3.ownBlock ≠ some R) := fun e => by have := (HRO.out.lt R e).2; omega
      have HO0 : Hid (w0.ownsRow w.heap.size 56 5 u3 ss.length (ecells encM ss)) := HRO.out.kept hg0 (Classical.em _)
      have HB0 : Hid (Below w.heap.size w w0) := HB.out.grown hg0 HB.out.size (fun j hj => by cases hj)
      clear hR HRO HB c0
      go_loopw [3] (fun v wr => ∃ (left : Lit → Bool) (cnt : Nat) (sm : List Md), wr.ranges Tryz.prog 32 entR X R n D left cnt ∧ sm.length + cnt ≤ Maps.size D ∧
          wr.ownsRow w.heap.size 56 5 v (ss.length + sm.length) (ecells encM (ss ++ sm)) ∧ Hid (v.ownBlock ≠ some R) ∧ Hid (MetL l left sm) ∧ Hid (Below w.heap.size w wr) ∧ R + 1 ≤ wr.heap.size)
        (fun _ wr => wr.rangeLeft X R)
      case atStart =>
        exact ⟨_, _, [], hrg0, by simp, by simpa using HO0.out, HUR.out, MetL.start HD.out, HB0.out, by omega⟩
      case round =>
        obtain ⟨left, cnt, sm, hrg, hcs, hrow, HUR, HM, HB, hsz⟩ := hrel
        have HRG : Hid (wr.ranges Tryz.prog 32 entR X R n D left cnt) := hrg
        have HRO : Hid (wr.ownsRow w.heap.size 56 5 u3 (ss.length + sm.length) (ecells encM (ss ++ sm))) := hrow
        have HCS : Hid (sm.length + cnt ≤ Maps.size D) := hcs
        have HSW : Hid (R + 1 ≤ wr.heap.size) := hsz
        clear hrg hrow hcs hsz hown hrg0 hg0 hs0
        go_wp2_with (first
          | (at_next; refine wpList_next_ranges _ rfl _ rfl 32 lawK entR (fun x : Ky => Value.agg #[.int .i64 x.1, .int .i64 x.2]) evalE invK10 invV11 X R n _ _ _ rfl HRG.out ?_ ?_)
          | go_in)
        · intro hc0 hl0
          have HALL : Hid (sm.Perm l) := HM.out.all HD.out.fit HD.out.rise hl0
          have HPM2 : Hid ((ss ++ sm).Perm ((Ls.take (k + 1)).flatMap (·.2))) := by unfold Hid; rw [HFL.out]; exact HPM.out.append HALL.out
          have HSL2 : Hid ((ss ++ sm).length ≤ (k + 1) * 1000) := by
            unfold Hid
            rw [List.length_append]
            have := HSL.out; have := HCS.out; have := HSD.out
            omega
          have HRO2 : Hid (wr.ownsRow w.heap.size 56 5 u3 (ss ++ sm).length (ecells encM (ss ++ sm))) := by unfold Hid; rw [List.length_append]; exact HRO.out
          clear hc0 hl0 HRG HRO HM HSL HALL HCS
          go_wp2
          go_roundw
          case rel => exact ⟨k + 1, ss ++ sm, by go_num, by omega, HSL2.out, HRO2.out, HPM2.out, HB.out⟩
          case measure => simp [intOf]; omega
        · intro h p s g u kl yd yp w2 cnt2 hkey hlk hv hat hrg2 hlt2 hg2 hs2 hen
          obtain ⟨x, hx', ex, rfl⟩ := keyOf_inv hkey
          obtain ⟨h', p'⟩ := x
          simp only [Value.agg.injEq, Array.mk.injEq, List.cons.injEq, Value.int.injEq, true_and, and_true] at ex
          obtain ⟨rfl, rfl⟩ := ex
          obtain ⟨⟨s', g', u'⟩, ev, ey⟩ := entR_inv hv
          simp only [evalE, Value.agg.injEq, Array.mk.injEq, List.cons.injEq, Value.int.injEq, true_and, and_true] at ev
          obtain ⟨rfl, rfl, e3⟩ := ev
          obtain rfl : u = u' := by omega
          clear e3
          simp only [Prod.mk.injEq] at ey
          obtain ⟨rfl, rfl⟩ := ey
          have HF : Hid (findM l (h, p) = some (s, g, u)) := HD.out.at_ hx' hat
          have HM2 : Hid (MetL l (fun z => left z && !z.sameKey (klit (h, p))) (sm ++ [md (h, p) (s, g, u)])) := HM.out.step (D := D) hx' hlk HF.out
          have HSS : Hid (ss ++ (sm ++ [md (h, p) (s, g, u)]) = ss ++ sm ++ [(⟨h, p, s, g, u⟩ : Md)]) := by unfold Hid; rw [List.append_assoc]; rfl
          have HRO2 : Hid (w2.ownsRow w.heap.size 56 5 u3 (ss.length + sm.length) (ecells encM (ss ++ sm))) := HRO.out.kept hg2 (Or.inr HUR.out)
          have HB2 : Hid (Below w.heap.size w w2) := HB.out.grown hg2 HB.out.size (fun j hj => by cases hj; exact HRW.out)
          have HS2 : Hid (R + 1 ≤ w2.heap.size) := Nat.le_trans HSW.out hg2.size
          have HRG2 : Hid (w2.ranges Tryz.prog 32 entR X R n D (fun z => left z && !z.sameKey (klit (h, p))) cnt2) := hrg2
          have HLT : Hid (cnt2 < cnt) := hlt2
          have HUX : Hid (u3.ownBlock ≠ some X) := fun e => by have := (HRO.out.lt X e).1; have := HXL.out; omega
          clear hkey hlk hv hat hrg2 hlt2 hg2 hs2 hx' HM HRO HB HSW HF
          have HK1 : Hid (Els encM 5 (((w2.alloc (.cells #[.int .i64 h, .int .i64 p] 32)).alloc (.cells #[.int .i64 s, .int .i64 g, .int .u32 (u : Nat)] 37)).alloc (.cells #[.int .i64 h, .int .i64 p, .int .i64 s, .int .i64 g, .int .u32 (u : Nat)] 56)) (.slice (some ⟨w2.heap.size + 2, 0, none⟩) 1 1) [⟨h, p, s, g, u⟩]) := els_three _ _ ⟨h, p, s, g, u⟩ _
          have HBa : Hid (Below w.heap.size w (((w2.alloc (.cells #[.int .i64 h, .int .i64 p] 32)).alloc (.cells #[.int .i64 s, .int .i64 g, .int .u32 (u : Nat)] 37)).alloc (.cells #[.int .i64 h, .int .i64 p, .int .i64 s, .int .i64 g, .int .u32 (u : Nat)] 56))) := ((HB2.out.alloc HB2.out.size _).alloc (by have := HB2.out.size; simp; omega) _).alloc (by have := HB2.out.size; simp; omega) _
          have HRa : Hid ((((w2.alloc (.cells #[.int .i64 h, .int .i64 p] 32)).alloc (.cells #[.int .i64 s, .int .i64 g, .int .u32 (u : Nat)] 37)).alloc (.cells #[.int .i64 h, .int .i64 p, .int .i64 s, .int .i64 g, .int .u32 (u : Nat)] 56)).ranges Tryz.prog 32 entR X R n D (fun z => left z && !z.sameKey (klit (h, p))) cnt2) := ((HRG2.out.alloc _).alloc _).alloc _
          have HSZ : Hid (w.heap.size ≤ w2.heap.size) := HB2.out.size
          go_wp2_with (first
            | (at_builtin; refine wpList_append_els encM_ok _ rfl _ _ 22 (by rfl) w.heap.size 56 i1 _ 40 Tryz.underlying22 hi1 hz3 (by rfl) hz4 hz5 (by decide) u3 (ss.length + sm.length) (ss ++ sm) (by rfl) (((HRO2.out.alloc _).alloc _).alloc _) (.slice (some ⟨w2.heap.size + 2, 0, none⟩) 1 1) [⟨h, p, s, g, u⟩] (by rfl) HK1.out (by have := HCS.out; have := HSD.out; have := HSL.out; simp; omega) (by have := HSZ.out; simp; omega) ?_; intro v5 w5 hown5 hg5 hat5; go_frame)
            | go_in)
          have HRG5 : Hid (w5.ranges Tryz.prog 32 entR X R n D (fun z => left z && !z.sameKey (klit (h, p))) cnt2) := HRa.out.kept hg5 (fun e => HUX.out e.symm) (fun e => HUR.out e.symm)
          have HB5 : Hid (Below w.heap.size w w5) := HBa.out.grown hg5 (by have := HSZ.out; simp; omega) (fun j hj => (HRO2.out.lt j hj).1)
          have hm1 := HRG5.out.left_eq
          have hm2 := HRG.out.left_eq
          have HS5 : Hid (R + 1 ≤ w5.heap.size) := Nat.le_trans (by have := HS2.out; simp; omega) hg5.size
          have HO5 : Hid (w5.ownsRow w.heap.size 56 5 v5 (ss.length + (sm ++ [md (h, p) (s, g, u)]).length) (ecells encM (ss ++ (sm ++ [md (h, p) (s, g, u)])))) := by unfold Hid; rw [HSS.out, List.length_append, ← Nat.add_assoc]; exact hown5
          have HU5 : Hid (v5.ownBlock ≠ some R) := by
            rcases hat5 with h5 | h5
            · rw [h5]; exact HUR.out
            · rw [h5]
              intro e
              simp at e
              have := HS2.out
              omega
          clear hown5 hg5 hat5
          go_roundw
          case rel =>
            exact ⟨_, cnt2, sm ++ [md (h, p) (s, g, u)], HRG5.out, by have := HCS.out; have := HLT.out; simp; omega, HO5.out, HU5.out, HM2.out, HB5.out, HS5.out⟩
          case measure => rw [hm1, hm2]; exact HLT.out
    · obtain rfl : k = N := by omega
      have HPE : Hid (ss.Perm T) := by
        have h2 := HPM.out
        rw [List.take_of_length_le (by rw [← HN.out]; exact Nat.le_refl _)] at h2
        exact h2.trans HP.out
      have HSO := sortMds_any wr w.heap.size u3 ss T HRO.out (by have := HSL.out; omega) HPE.out HTR.out HRR.out
      have HBW2 : Hid (∀ w', wr.grownBy w' u3.ownBlock → Below w.heap.size w w') := fun w' hg => HB.out.grown hg HB.out.size (fun j hj => (HRO.out.lt j hj).1)
      have HLB : Hid (∀ g, u3.ownBlock = some g → w.heap.size ≤ g) := fun g hg => (HRO.out.lt g hg).1
      clear HPM HRO HPE HSL
      go_wp2_with fail
      refine HSO.mono ?_
      rintro e w5 ⟨rfl, hn5, hg5⟩
      have HN5 : Hid (Els encM 5 w5 u3 T) := hn5
      have HB5 : Hid (Below w.heap.size w w5) := HBW2.out w5 hg5
      clear hn5 hg5 HSO
      go_wp2
      go_ret
      exact ⟨_, rfl, HN5.out, HB5.out, HLB.out⟩
end Go.Proofs.YtjhkcdnfnmglhaaGreatDoor

/- Contract of overlay.keysOf. -/
namespace Go.Proofs.YtjhkcdnfnmglhaaGreatDoor
open Go.RowKit Go.Maps
set_option linter.unusedVariables false
set_option maxRecDepth 20000

/-- The keys of mapped pages that are wanted. -/
def wantK (wb : Ky → Bool) (l : List Md) : List Ky := (l.map Md.k).filter wb
theorem wantK_append (wb : Ky → Bool) (a b : List Md) : wantK wb (a ++ b) = wantK wb a ++ wantK wb b := by simp [wantK]
theorem wantK_yes {wb : Ky → Bool} {x : Ky} {e : Ent} (h : wb x = true) : wantK wb [md x e] = [x] := by simp [wantK, md_k, h]
theorem wantK_no {wb : Ky → Bool} {x : Ky} {e : Ent} (h : wb x = false) : wantK wb [md x e] = [] := by simp [wantK, md_k, h]
theorem wantK_len (wb : Ky → Bool) (l : List Md) : (wantK wb l).length ≤ l.length := by
  have := List.length_filter_le wb (l.map Md.k)
  simpa [wantK] using this
set_option maxHeartbeats 4000000 in
theorem keysOf12_any (w : World) (f : Nat) (caps : Array Value) (v : Value) (Ls : List (Nat × List Md)) (wb : Ky → Bool) (hcf : ∀ args w, Sem.run Tryz.prog (callFunc f args) w = .ok (.enter f args) w) (hv : Pgs w v Ls) (hl : ∀ x ∈ Ls, x.2.length ≤ 490) (hn : Ls.length ≤ 2)
    (hf : ∀ k W, KI k → Below w.heap.size w W → Calls Tryz.prog f (#[.agg #[.int .i64 k.1, .int .i64 k.2]] ++ caps) W fun e w' => e = .returned (.bool (wb k)) ∧ Below W.heap.size W w') :
    Calls Tryz.prog 51 #[.func (.func f) #[] caps, v] w fun e w' => ∃ u, e = .returned u ∧ Keys w' u (sortR (wantK wb (Ls.flatMap (·.2)))) ∧ Below w.heap.size w w' ∧ ∀ g, u.ownBlock = some g → w.heap.size ≤ g := by
  obtain ⟨G, hv0, hG, hcell⟩ := id hv
  subst hv0
  obtain ⟨N, hN⟩ : ∃ N, N = Ls.length := ⟨_, rfl⟩
  rw [← hN] at hv hn ⊢
  have HN : Hid (N = Ls.length) := hN
  have HV : Hid (Pgs w (.slice (some ⟨G, 0, none⟩) N N) Ls) := hv
  have HL : Hid (∀ x ∈ Ls, x.2.length ≤ 490) := hl
  have HG : Hid (G < w.heap.size) := hG
  have HF : Hid (∀ k W, KI k → Below w.heap.size w W → Calls Tryz.prog f (#[.agg #[.int .i64 k.1, .int .i64 k.2]] ++ caps) W fun e w' => e = .returned (.bool (wb k)) ∧ Below W.heap.size W w') := hf
  obtain ⟨i0, hi, hz0, hz1, hz2⟩ := info_k
  clear hN hv hl hG hf hcell
  go_enter Tryz.func51, Tryz.ntmps51
  go_wp2_with fail
  go_loopw [5, 11] (fun v i wr => ∃ (k : Nat) (ss : List Ky), i = .int .i64 (k : Nat) ∧ k ≤ N ∧ ss.length ≤ k * 490 ∧ wr.ownsRow w.heap.size 32 2 v ss.length (kcells ss) ∧ Hid (ss.Perm (wantK wb ((Ls.take k).flatMap (·.2)))) ∧ Hid (∀ x ∈ ss, KI x) ∧ Hid (Below w.heap.size w wr)) (fun _ i _ => N - (intOf i).toNat)
  case atStart => exact ⟨0, [], rfl, Nat.zero_le _, by simp, World.ownsRow_nil _ _ _ _, by simp [Hid, wantK], by simp [Hid], Below.refl _ _⟩
  case round =>
    obtain ⟨k, ss, rfl, hk, hsl, hrow, HPM, HKI, HB⟩ := hrel
    have HRO : Hid (wr.ownsRow w.heap.size 32 2 u5 ss.length (kcells ss)) := hrow
    have HSL : Hid (ss.length ≤ k * 490) := hsl
    clear hrow hsl
    by_cases hlt : k < N
    · obtain ⟨⟨X, l⟩, hkk⟩ : ∃ x, Ls[k]? = some x := ⟨_, List.getElem?_eq_getElem (by rw [← HN.out]; exact hlt)⟩
      obtain ⟨c0, hM⟩ := HV.out.at_ HB.out hkk
      have HLX : Hid (l.length ≤ 490) := HL.out _ (List.mem_of_getElem? hkk)
      have HFL : Hid (wantK wb ((Ls.take (k + 1)).flatMap (·.2)) = wantK wb ((Ls.take k).flatMap (·.2)) ++ wantK wb l) := by unfold Hid; rw [flat_snoc hkk, wantK_append]
      have HXL : Hid (X < w.heap.size) := by obtain ⟨_, h2⟩ := HV.out.at_ (Below.refl _ _) hkk; exact h2.lt
      obtain ⟨D, hown, hD⟩ := hM
      have HD : Hid (EntL D l) := hD
      have HSD : Hid (Maps.size D ≤ 490) := by unfold Hid; rw [hD.size]; exact HLX.out
      obtain ⟨n, hn⟩ : ∃ n, n = l.length := ⟨_, rfl⟩
      rw [← hn] at hown
      clear hkk hD hn
      go_wp2_with (first
        | (at_range; refine wpList_range_own _ rfl _ 68 rfl 32 37 lawK Tryz.underlying68 entR X n D rfl hown ?_; intro w0 hrg0 hg0 hs0)
        | go_in)
      try go_frame
      obtain ⟨R, hR⟩ : ∃ R, R = wr.heap.size := ⟨_, rfl⟩
      have HR : Hid (R = wr.heap.size) := hR
      rw [← hR] at hrg0 hs0
      rw [← hR]
      try rw [← hR]
      have HRW : Hid (w.heap.size ≤ R) := by rw [hR]; exact HB.out.size
      have HUR : Hid (u5.ownBlock ≠ some R) := fun e => by have := (HRO.out.lt R e).2; omega
      have HO0 : Hid (w0.ownsRow w.heap.size 32 2 u5 ss.length (kcells ss)) := HRO.out.kept hg0 (Classical.em _)
      have HB0 : Hid (Below w.heap.size w w0) := HB.out.grown hg0 HB.out.size (fun j hj => by cases hj)
      clear hR HRO HB c0
      go_loopw [5] (fun v wr => ∃ (left : Lit → Bool) (cnt : Nat) (sm : List Md), wr.ranges Tryz.prog 32 entR X R n D left cnt ∧ sm.length + cnt ≤ Maps.size D ∧
          wr.ownsRow w.heap.size 32 2 v (ss ++ wantK wb sm).length (kcells (ss ++ wantK wb sm)) ∧ Hid (v.ownBlock ≠ some R) ∧ Hid (MetL l left sm) ∧ Hid (Below w.heap.size w wr) ∧ R + 1 ≤ wr.heap.size)
        (fun _ wr => wr.rangeLeft X R)
      case atStart =>
        exact ⟨_, _, [], hrg0, by simp, by simpa [wantK] using HO0.out, HUR.out, MetL.start HD.out, HB0.out, by omega⟩
      case round =>
        obtain ⟨left, cnt, sm, hrg, hcs, hrow, HUR, HM, HB, hsz⟩ := hrel
        have HRG : Hid (wr.ranges Tryz.prog 32 entR X R n D left cnt) := hrg
        have HRO : Hid (wr.ownsRow w.heap.size 32 2 u5 (ss ++ wantK wb sm).length (kcells (ss ++ wantK wb sm))) := hrow
        have HCS : Hid (sm.length + cnt ≤ Maps.size D) := hcs
        have HSW : Hid (R + 1 ≤ wr.heap.size) := hsz
        clear hrg hrow hcs hsz hown hrg0 hg0 hs0
        go_wp2_with (first
          | (at_next; refine wpList_next_ranges _ rfl _ rfl 32 lawK entR (fun x : Ky => Value.agg #[.int .i64 x.1, .int .i64 x.2]) evalE invK10 invV11 X R n _ _ _ rfl HRG.out ?_ ?_)
          | go_in)
        · intro hc0 hl0
          have HALL : Hid (sm.Perm l) := HM.out.all HD.out.fit HD.out.rise hl0
          have HPM2 : Hid ((ss ++ wantK wb sm).Perm (wantK wb ((Ls.take (k + 1)).flatMap (·.2)))) := by unfold Hid; rw [HFL.out]; exact HPM.out.append ((HALL.out.map Md.k).filter wb)
          have HSL2 : Hid ((ss ++ wantK wb sm).length ≤ (k + 1) * 490) := by
            unfold Hid
            rw [List.length_append]
            have := HSL.out; have := HCS.out; have := HSD.out; have := wantK_len wb sm
            omega
          have HKI2 : Hid (∀ x ∈ ss ++ wantK wb sm, KI x) := fun x hx => by
            rcases List.mem_append.1 hx with hx | hx
            · exact HKI.out x hx
            · exact HM.out.fit x (List.mem_filter.1 hx).1
          clear hc0 hl0 HRG HM HSL HALL HCS
          go_wp2
          go_roundw
          case rel => exact ⟨k + 1, ss ++ wantK wb sm, by go_num, by omega, HSL2.out, HRO.out, HPM2.out, HKI2.out, HB.out⟩
          case measure => simp [intOf]; omega
        · intro h p s g u kl yd yp w2 cnt2 hkey hlk hv hat hrg2 hlt2 hg2 hs2 hen
          obtain ⟨x, hx', ex, rfl⟩ := keyOf_inv hkey
          obtain ⟨h', p'⟩ := x
          simp only [Value.agg.injEq, Array.mk.injEq, List.cons.injEq, Value.int.injEq, true_and, and_true] at ex
          obtain ⟨rfl, rfl⟩ := ex
          obtain ⟨⟨s', g', u'⟩, ev, ey⟩ := entR_inv hv
          simp only [evalE, Value.agg.injEq, Array.mk.injEq, List.cons.injEq, Value.int.injEq, true_and, and_true] at ev
          obtain ⟨rfl, rfl, e3⟩ := ev
          obtain rfl : u = u' := by omega
          clear e3
          simp only [Prod.mk.injEq] at ey
          obtain ⟨rfl, rfl⟩ := ey
          have HFI : Hid (findM l (h, p) = some (s, g, u)) := HD.out.at_ hx' hat
          have HM2 : Hid (MetL l (fun z => left z && !z.sameKey (klit (h, p))) (sm ++ [md (h, p) (s, g, u)])) := HM.out.step (D := D) hx' hlk HFI.out
          have HX : Hid (KI (h, p)) := hx'
          have HRO2 : Hid (w2.ownsRow w.heap.size 32 2 u5 (ss ++ wantK wb sm).length (kcells (ss ++ wantK wb sm))) := HRO.out.kept hg2 (Or.inr HUR.out)
          have HB2 : Hid (Below w.heap.size w w2) := HB.out.grown hg2 HB.out.size (fun j hj => by cases hj; exact HRW.out)
          have HS2 : Hid (R + 1 ≤ w2.heap.size) := Nat.le_trans HSW.out hg2.size
          have HRG2 : Hid (w2.ranges Tryz.prog 32 entR X R n D (fun z => left z && !z.sameKey (klit (h, p))) cnt2) := hrg2
          have HLT : Hid (cnt2 < cnt) := hlt2
          have HUX : Hid (u5.ownBlock ≠ some X) := fun e => by have := (HRO.out.lt X e).1; have := HXL.out; omega
          have HCL : Hid (Calls Tryz.prog f (#[.agg #[.int .i64 h, .int .i64 p]] ++ caps) (w2.alloc (.cells #[.int .i64 h, .int .i64 p] 32)) fun e w' => e = .returned (.bool (wb (h, p))) ∧ Below (w2.alloc (.cells #[.int .i64 h, .int .i64 p] 32)).heap.size (w2.alloc (.cells #[.int .i64 h, .int .i64 p] 32)) w') := HF.out (h, p) _ hx' (HB2.out.alloc HB2.out.size _)
          clear hkey hlk hv hat hrg2 hlt2 hg2 hs2 hx' HM HRO HB HSW HFI
          go_wp2_with fail
          refine HCL.out.mono ?_
          rintro e w3 ⟨rfl, hb3⟩
          have HRO3 : Hid (w3.ownsRow w.heap.size 32 2 u5 (ss ++ wantK wb sm).length (kcells (ss ++ wantK wb sm))) := (HRO2.out.alloc _).kept (grown_below hb3) (Classical.em _)
          have HB3 : Hid (Below w.heap.size w w3) := (HB2.out.alloc HB2.out.size _).trans (hb3.mono (by have := HB2.out.size; simp; omega))
          have HRG3 : Hid (w3.ranges Tryz.prog 32 entR X R n D (fun z => left z && !z.sameKey (klit (h, p))) cnt2) := (HRG2.out.alloc _).kept (grown_below hb3) (by simp) (by simp)
          have HS3 : Hid (R + 1 ≤ w3.heap.size ∧ w.heap.size ≤ w3.heap.size) := ⟨Nat.le_trans HS2.out (Nat.le_trans (by simp) hb3.size), HB3.out.size⟩
          have c0 : w3.cell? ⟨w2.heap.size, 0, none⟩ = some (.int .i64 h) := (hb3.cell (p := ⟨w2.heap.size, 0, none⟩) (by simp)).trans (by simp)
          have c1 : w3.cell? ⟨w2.heap.size, 1, none⟩ = some (.int .i64 p) := (hb3.cell (p := ⟨w2.heap.size, 1, none⟩) (by simp)).trans (by simp)
          clear hb3 HCL HB2 HRO2 HRG2 HS2 hen
          generalize w2.heap.size = Z at *
          have hm2 := HRG.out.left_eq
          cases hbb : wb (h, p)
          · have HW2 : Hid (wantK wb (sm ++ [md (h, p) (s, g, u)]) = wantK wb sm) := by unfold Hid; rw [wantK_append, wantK_no hbb, List.append_nil]
            have hm1 := HRG3.out.left_eq
            clear hbb
            go_wp2
            go_roundw
            case rel =>
              exact ⟨_, cnt2, sm ++ [md (h, p) (s, g, u)], HRG3.out, by have := HCS.out; have := HLT.out; simp; omega, by rw [HW2.out]; exact HRO3.out, HUR.out, HM2.out, HB3.out, HS3.out.1⟩
            case measure => rw [hm1, hm2]; exact HLT.out
          · have HW2 : Hid (ss ++ wantK wb (sm ++ [md (h, p) (s, g, u)]) = ss ++ wantK wb sm ++ [(h, p)]) := by unfold Hid; rw [wantK_append, wantK_yes hbb, List.append_assoc]
            clear hbb
            have HLW : Hid ((ss ++ wantK wb sm).length ≤ 1000) := by
              have := HSL.out; have := HCS.out; have := HSD.out; have := wantK_len wb sm
              unfold Hid
              rw [List.length_append]
              omega
            have HK1 : Hid (Keys (w3.alloc (.cells #[.int .i64 h, .int .i64 p] 32)) (.slice (some ⟨w3.heap.size, 0, none⟩) 1 1) [(h, p)]) := Keys.one HX.out
            have HBa : Hid (Below w.heap.size w (w3.alloc (.cells #[.int .i64 h, .int .i64 p] 32))) := HB3.out.alloc HB3.out.size _
            have HRa : Hid ((w3.alloc (.cells #[.int .i64 h, .int .i64 p] 32)).ranges Tryz.prog 32 entR X R n D (fun z => left z && !z.sameKey (klit (h, p))) cnt2) := HRG3.out.alloc _
            go_wp2_with (first
              | (at_builtin; refine wpList_append_keys _ rfl _ _ 54 (by rfl) w.heap.size 32 i0 Tryz.underlying54 hi hz0 hz1 hz2 u5 (ss ++ wantK wb sm).length (ss ++ wantK wb sm) (by rfl) (HRO3.out.alloc _) (.slice (some ⟨w3.heap.size, 0, none⟩) 1 1) [(h, p)] (by rfl) HK1.out (by have := HLW.out; simp only [List.length_cons, List.length_nil]; omega) (by have := HS3.out; simp; omega) ?_; intro v5 w5 hown5 hg5 hat5; go_frame)
              | go_in)
            have HRG5 : Hid (w5.ranges Tryz.prog 32 entR X R n D (fun z => left z && !z.sameKey (klit (h, p))) cnt2) := HRa.out.kept hg5 (fun e => HUX.out e.symm) (fun e => HUR.out e.symm)
            have HB5 : Hid (Below w.heap.size w w5) := HBa.out.grown hg5 (by have := HS3.out; simp; omega) (fun j hj => (HRO3.out.lt j hj).1)
            have hm1 := HRG5.out.left_eq
            have HS5 : Hid (R + 1 ≤ w5.heap.size) := Nat.le_trans (by have := HS3.out; simp; omega) hg5.size
            have HO5 : Hid (w5.ownsRow w.heap.size 32 2 v5 (ss ++ wantK wb (sm ++ [md (h, p) (s, g, u)])).length (kcells (ss ++ wantK wb (sm ++ [md (h, p) (s, g, u)])))) := by unfold Hid; rw [HW2.out, List.length_append]; exact hown5
            have HU5 : Hid (v5.ownBlock ≠ some R) := by
              rcases hat5 with h5 | h5
              · rw [h5]; exact HUR.out
              · rw [h5]
                intro e
                simp at e
                have := HS3.out
                omega
            clear hown5 hg5 hat5
            go_roundw
            case rel =>
              exact ⟨_, cnt2, sm ++ [md (h, p) (s, g, u)], HRG5.out, by have := HCS.out; have := HLT.out; simp; omega, HO5.out, HU5.out, HM2.out, HB5.out, HS5.out⟩
            case measure => rw [hm1, hm2]; exact HLT.out
    · obtain rfl : k = N := by omega
      have HPE : Hid (sortR ss = sortR (wantK wb (Ls.flatMap (·.2)))) := by
        have h2 := HPM.out
        rw [List.take_of_length_le (by rw [← HN.out]; exact Nat.le_refl _)] at h2
        exact sortR_alike fun x => h2.mem_iff
      have HSO := sort_any wr u5 ss (Keys.ofOwn HRO.out HKI.out) (by have := HSL.out; omega)
      rw [HPE.out] at HSO
      clear HPM HRO HPE HSL HKI
      go_wp2_with fail
      refine HSO.mono ?_
      rintro e w5 ⟨u, rfl, hn5, hb5, hown5⟩
      have HN5 : Hid (Keys w5 u (sortR (wantK wb (Ls.flatMap (·.2))))) := hn5
      have HB5 : Hid (Below w.heap.size w w5) := HB.out.trans (hb5.mono HB.out.size)
      have HLB : Hid (∀ g, u.ownBlock = some g → w.heap.size ≤ g) := fun g hg => Nat.le_trans HB.out.size (hown5 g hg)
      clear hn5 hb5 HSO hown5
      go_wp2
      go_ret
      exact ⟨_, rfl, HN5.out, HB5.out, HLB.out⟩
end Go.Proofs.YtjhkcdnfnmglhaaGreatDoor

/- The program's overlay in memory. -/
namespace Go.Proofs.YtjhkcdnfnmglhaaGreatDoor
open Go.RowKit Go.Maps
set_option linter.unusedVariables false
set_option maxRecDepth 20000

/-- Where its blocks lie: the board's head, row, words and free list; the maps base, was, fresh. -/
structure OvB where
  h : Nat
  p : Nat
  b : Nat
  f : Nat
  cap : Nat
  X : Nat
  Y : Nat
  Z : Nat
/-- The overlay at block q is O. -/
structure OvAt (w : World) (q : Nat) (s : OvB) (O : Ov) : Prop where
  head : w.heap[q]? = some (.cells #[.pointer (some ⟨s.h, 0, none⟩), .map (some s.X), .map (some s.Y), .map (some s.Z)] 74 (0, 0))
  board : BoardAt w s.h s.p s.b s.f s.cap O.n O.B
  base : MapL w s.X O.base
  was : MapL w s.Y O.was
  fresh : MapL w s.Z O.fresh
  ne : s.X ≠ s.Y ∧ s.X ≠ s.Z ∧ s.Y ≠ s.Z
  pos : 0 < s.b ∧ 0 < s.f
/-- Only the board's two blocks and the maps may have turned. -/
def OvStep (s : OvB) (w w' : World) : Prop := Kept (fun k => k < w.heap.size ∧ k ≠ s.b ∧ k ≠ s.f ∧ k ≠ s.X ∧ k ≠ s.Y ∧ k ≠ s.Z) w w'
theorem OvStep.refl (s : OvB) (w : World) : OvStep s w w := Kept.refl _ w
theorem OvStep.size {s : OvB} {w w' : World} (h : OvStep s w w') : w.heap.size ≤ w'.heap.size := Kept.size h
theorem OvStep.trans {s : OvB} {x y z : World} (h : OvStep s x y) (k : OvStep s y z) : OvStep s x z :=
  Kept.trans (K := fun k => k < x.heap.size ∧ k ≠ s.b ∧ k ≠ s.f ∧ k ≠ s.X ∧ k ≠ s.Y ∧ k ≠ s.Z) h (Kept.mono k fun i hi => ⟨Nat.lt_of_lt_of_le hi.1 h.size, hi.2⟩)
theorem OvStep.ofBelow {s : OvB} {w w' : World} (h : Below w.heap.size w w') : OvStep s w w' := Kept.ofBelow h fun _ hk => hk.1
theorem OvStep.below {s : OvB} {a w w' : World} (h : OvStep s a w) (hb : Below w.heap.size w w') : OvStep s a w' := h.trans (.ofBelow hb)
theorem OvStep.ofOnly2 {s : OvB} {w w' : World} (h : Only2 s.b s.f w w') : OvStep s w w' := Kept.mono (K := fun i => i < w.heap.size ∧ i ≠ s.b ∧ i ≠ s.f) h fun _ hk => ⟨hk.1, hk.2.1, hk.2.2.1⟩
theorem OvStep.grown {s : OvB} {a w w' : World} {j : Nat} (h : OvStep s a w) (hg : w.grownBy w' (some j)) (hj : j = s.X ∨ j = s.Y ∨ j = s.Z) : OvStep s a w' :=
  Kept.grown (K := fun k => k < a.heap.size ∧ k ≠ s.b ∧ k ≠ s.f ∧ k ≠ s.X ∧ k ≠ s.Y ∧ k ≠ s.Z) h hg fun k hk => ⟨Nat.lt_of_lt_of_le hk.1 h.size, fun e => by
    simp only [Option.some.injEq] at e
    rcases hj with rfl | rfl | rfl
    · exact hk.2.2.2.1 e.symm
    · exact hk.2.2.2.2.1 e.symm
    · exact hk.2.2.2.2.2 e.symm⟩
theorem OvStep.setNew {s : OvB} {a w : World} (h : OvStep s a w) {p : Addr} (hp : a.heap.size ≤ p.block) (u : Value) : OvStep s a (w.setCell p u) :=
  Kept.setCell (K := fun k => k < a.heap.size ∧ k ≠ s.b ∧ k ≠ s.f ∧ k ≠ s.X ∧ k ≠ s.Y ∧ k ≠ s.Z) h (fun hk => absurd hk.1 (by omega)) u
theorem OvStep.heap {s : OvB} {w w' : World} (h : OvStep s w w') {k : Nat} (hk : k < w.heap.size) (h1 : k ≠ s.b ∧ k ≠ s.f ∧ k ≠ s.X ∧ k ≠ s.Y ∧ k ≠ s.Z) : w'.heap[k]? = w.heap[k]? := Kept.block h k ⟨hk, h1⟩
theorem ne_map {w : World} {i j : Nat} {C : Array Value} {t : TypeId} {g : Nat × Nat} {l : List Md} (h : w.heap[i]? = some (.cells C t g)) (hm : MapL w j l) : i ≠ j := fun e => by
  obtain ⟨es, c, h2⟩ := hm.map
  rw [e, h2] at h
  cases h
theorem OvAt.lt {w : World} {q : Nat} {s : OvB} {O : Ov} (h : OvAt w q s O) : q < w.heap.size := lt_of_heap h.head
/-- The blocks of the board and of the head are no maps. -/
theorem OvAt.off {w : World} {q : Nat} {s : OvB} {O : Ov} (h : OvAt w q s O) {j : Nat} {l : List Md} (hm : MapL w j l) : q ≠ j ∧ s.h ≠ j ∧ s.p ≠ j ∧ s.b ≠ j ∧ s.f ≠ j := by
  obtain ⟨cur, h2, _⟩ := h.board.nums
  exact ⟨ne_map h.head hm, ne_map h.board.head hm, ne_map h.board.row.head hm, ne_map h.board.row.body hm, ne_map h2 hm⟩
/-- The head is none of the board's. -/
theorem OvAt.headOff {w : World} {q : Nat} {s : OvB} {O : Ov} (h : OvAt w q s O) : q ≠ s.h ∧ q ≠ s.p ∧ q ≠ s.b ∧ q ≠ s.f := by
  obtain ⟨cur, h2, h3⟩ := h.board.nums
  exact ⟨ne_type h.head h.board.head (by decide), ne_type h.head h.board.row.head (by decide), ne_type h.head h.board.row.body (by decide), ne_type h.head h2 (by decide)⟩
theorem OvAt.kept {w w' : World} {q : Nat} {s : OvB} {O : Ov} (h : OvAt w q s O) (hb : Below w.heap.size w w') : OvAt w' q s O where
  head := (hb.block q h.lt).trans h.head
  board := h.board.below hb
  base := h.base.kept hb
  was := h.was.kept hb
  fresh := h.fresh.kept hb
  ne := h.ne
  pos := h.pos
theorem OvAt.cells {w : World} {q : Nat} {s : OvB} {O : Ov} (h : OvAt w q s O) : w.cell? ⟨q, 0, none⟩ = some (.pointer (some ⟨s.h, 0, none⟩)) ∧ w.cell? ⟨q, 1, none⟩ = some (.map (some s.X)) ∧ w.cell? ⟨q, 2, none⟩ = some (.map (some s.Y)) ∧ w.cell? ⟨q, 3, none⟩ = some (.map (some s.Z)) := by
  refine ⟨?_, ?_, ?_, ?_⟩ <;> rw [cell_of_row _ _ _ _ _ _ h.head] <;> rfl
theorem OvAt.boardTo {w w' : World} {q : Nat} {s : OvB} {O : Ov} {B : Nat → Bool} (h : OvAt w q s O) (ho : Only2 s.b s.f w w') (hB : BoardAt w' s.h s.p s.b s.f s.cap O.n B) : OvAt w' q s { O with B := B } := by
  have o0 := h.headOff
  have ox := h.off h.base
  have oy := h.off h.was
  have oz := h.off h.fresh
  exact {
    head := (ho.heap h.lt o0.2.2.1 o0.2.2.2).trans h.head
    board := hB
    base := h.base.same (ho.heap h.base.lt ox.2.2.2.1.symm ox.2.2.2.2.symm)
    was := h.was.same (ho.heap h.was.lt oy.2.2.2.1.symm oy.2.2.2.2.symm)
    fresh := h.fresh.same (ho.heap h.fresh.lt oz.2.2.2.1.symm oz.2.2.2.2.symm)
    ne := h.ne
    pos := h.pos }
theorem grown_block {w w' : World} {i j : Nat} (hg : w.grownBy w' (some j)) (hi : i < w.heap.size) (hne : i ≠ j) : w'.heap[i]? = w.heap[i]? := hg.block i hi (fun e => hne (Option.some.inj e))
theorem OvAt.boardOver {w w' : World} {q : Nat} {s : OvB} {O : Ov} {j : Nat} {l : List Md} (h : OvAt w q s O) (hj : MapL w j l) (hg : w.grownBy w' (some j)) : w'.heap[q]? = w.heap[q]? ∧ BoardAt w' s.h s.p s.b s.f s.cap O.n O.B := by
  have o := h.off hj
  obtain ⟨cur, h2, _⟩ := h.board.nums
  exact ⟨grown_block hg h.lt o.1, h.board.same (grown_block hg (lt_of_heap h.board.head) o.2.1) (grown_block hg (lt_of_heap h.board.row.head) o.2.2.1) (grown_block hg (lt_of_heap h.board.row.body) o.2.2.2.1) (grown_block hg (lt_of_heap h2) o.2.2.2.2)⟩
theorem OvAt.baseTo {w w' : World} {q : Nat} {s : OvB} {O : Ov} {l : List Md} (h : OvAt w q s O) (hg : w.grownBy w' (some s.X)) (hM : MapL w' s.X l) : OvAt w' q s { O with base := l } where
  head := (h.boardOver h.base hg).1.trans h.head
  board := (h.boardOver h.base hg).2
  base := hM
  was := h.was.same (grown_block hg h.was.lt h.ne.1.symm)
  fresh := h.fresh.same (grown_block hg h.fresh.lt h.ne.2.1.symm)
  ne := h.ne
  pos := h.pos
theorem OvAt.wasTo {w w' : World} {q : Nat} {s : OvB} {O : Ov} {l : List Md} (h : OvAt w q s O) (hg : w.grownBy w' (some s.Y)) (hM : MapL w' s.Y l) : OvAt w' q s { O with was := l } where
  head := (h.boardOver h.was hg).1.trans h.head
  board := (h.boardOver h.was hg).2
  base := h.base.same (grown_block hg h.base.lt h.ne.1)
  was := hM
  fresh := h.fresh.same (grown_block hg h.fresh.lt h.ne.2.2.symm)
  ne := h.ne
  pos := h.pos
theorem OvAt.freshTo {w w' : World} {q : Nat} {s : OvB} {O : Ov} {l : List Md} (h : OvAt w q s O) (hg : w.grownBy w' (some s.Z)) (hM : MapL w' s.Z l) : OvAt w' q s { O with fresh := l } where
  head := (h.boardOver h.fresh hg).1.trans h.head
  board := (h.boardOver h.fresh hg).2
  base := h.base.same (grown_block hg h.base.lt h.ne.2.1)
  was := h.was.same (grown_block hg h.was.lt h.ne.2.2)
  fresh := hM
  ne := h.ne
  pos := h.pos
theorem heap_of_cell {w : World} {b i : Nat} {v : Value} (h : w.cell? ⟨b, i, none⟩ = some v) : ∃ C t g, w.heap[b]? = some (.cells C t g) := by
  unfold World.cell? at h
  cases hb : w.heap[b]? with
  | none => simp [hb] at h
  | some o => cases o <;> first | exact ⟨_, _, _, rfl⟩ | simp [hb] at h
theorem Steps.ov {w w' : World} {q : Nat} {s : OvB} {O : Ov} (h : Steps w) (hO : OvAt w q s O) (hs : OvStep s w w') : Steps w' := fun j hj => by
  have hc := h j hj
  obtain ⟨C, t, g, hb⟩ := heap_of_cell hc
  refine (Kept.cell (p := ⟨0, j, none⟩) hs ⟨h.pos, ?_, ?_, ne_map hb hO.base, ne_map hb hO.was, ne_map hb hO.fresh⟩).trans hc
  · have := hO.pos; show 0 ≠ s.b; omega
  · have := hO.pos; show 0 ≠ s.f; omega
/-- The maps are small. -/
def OvSmall (O : Ov) : Prop := O.base.length ≤ 490 ∧ O.was.length ≤ 490 ∧ O.fresh.length ≤ 490
end Go.Proofs.YtjhkcdnfnmglhaaGreatDoor
