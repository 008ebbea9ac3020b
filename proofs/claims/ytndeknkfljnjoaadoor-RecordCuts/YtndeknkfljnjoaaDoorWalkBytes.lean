/- Contracts of bytes.Clone, bytes.Equal, bytes.HasPrefix over octets; the first part of octets. -/
import Derived.Test.YtndeknkfljnjoaaDoorStrOct
import Derived.Test.YtndeknkfljnjoaaDoorWalkText4
import Derived.Lib.LazyBuf
namespace Go.Proofs.YtndeknkfljnjoaaDoor
open Go.RowKit
set_option linter.unusedVariables false

theorem Octs.nil (w : World) : Octs w (.slice none 0 0) [] := ⟨by simp, by simp [maxLen], none, 0, rfl, Nat.le_refl _, by simp [maxLen], .inl ⟨rfl, rfl⟩⟩
/-- 'x[:n]'. -/
theorem Octs.cut {w : World} {a : Option Addr} {l cap n : Nat} {zs : List Nat} (h : Octs w (.slice a l cap) zs) (hn : n ≤ l) : Octs w (.slice a n cap) (zs.take n) := by
  have hl := h.lenEq
  by_cases h0 : 0 < l
  · obtain ⟨b, off, rfl, -, -⟩ := h.addr h0
    exact h.front hn
  · obtain rfl : n = 0 := by omega
    obtain rfl : l = 0 := by omega
    obtain rfl : zs = [] := List.eq_nil_of_length_eq_zero hl
    exact h
theorem Octs.capLe {w : World} {a : Option Addr} {l cap : Nat} {zs : List Nat} (h : Octs w (.slice a l cap) zs) : l ≤ cap ∧ cap ≤ maxLen := by
  obtain ⟨h1, h2, ad, c, e, h3, h4, h5⟩ := h
  cases e
  exact ⟨h3, h4⟩

set_option maxHeartbeats 400000 in
theorem clone_octs (v : Value) (zs : List Nat) (w : World) (h : Octs w v zs) (hlen : zs.length ≤ 100000) :
    Calls Tryd.prog 26 #[v] w fun e w' => ∃ u, e = .returned u ∧ Octs w' u zs ∧ Below w.heap.size w w' := by
  obtain ⟨i0, hi, hz0, hz1, hz2⟩ := info_parts Tryd.infoU8'
  have HO : Hid (Octs w v zs) := h
  obtain ⟨a, cap, rfl⟩ := h.shape
  clear h
  have heq : (binOp .eql 22 (.slice a zs.length cap) (.slice none 0 0)).run Tryd.prog w = .ok (.bool a.isNone) w := run_eql_slice_nil (P := Tryd.prog) w _ _ a _ _ Tryd.underlying22
  cases a with
  | none =>
    have h0 : zs = [] := by
      obtain ⟨h1, h2, ad, c, e, h3, h4, h5⟩ := HO.out
      cases e
      rcases h5 with ⟨_, rfl⟩ | ⟨ad, e, _⟩
      · exact List.eq_nil_of_length_eq_zero (by omega)
      · cases e
    subst h0
    simp only [List.length_nil, Option.isNone_none] at heq
    clear HO
    go_enter Tryd.func26, Tryd.ntmps26
    go_wp2
    go_ret
    exact ⟨_, rfl, Octs.nil _, Below.refl _ _⟩
  | some ad =>
    go_enter Tryd.func26, Tryd.ntmps26
    go_wp2_with (at_builtin; refine wpList_append_octs _ rfl _ _ 22 rfl w.heap.size 5 i0 Tryd.underlying22 hi hz0 hz1 hz2 _ 0 [] rfl (World.ownsRow_made _ #[] 0 (Nat.le_refl _) (by decide) rfl) _ zs rfl (HO.out.alloc _) ?d1 ?d2 ?_)
    case d1 => omega
    case d2 => simp
    intro v2 w2 hown2 hg2
    have HB2 : Hid (Below w.heap.size w w2) := ((Below.refl _ _).alloc (Nat.le_refl _) _).trans (below_grown (World.ownsRow_made _ #[] 0 (Nat.le_refl _) (by decide) rfl) hg2 (by simp))
    have HO2 : Hid (Octs w2 v2 zs) := Octs.owned (by simpa using hown2) HO.out.small
    clear hown2 hg2
    go_wp2
    go_ret
    exact ⟨_, rfl, HO2.out, HB2.out⟩
theorem equal_octs (v u : Value) (xs ys : List Nat) (w : World) (hv : Octs w v xs) (hu : Octs w u ys) :
    Calls Tryd.prog 27 #[v, u] w fun e w' => e = .returned (.bool (decide (xs = ys))) ∧ w' = w := by
  have c1 := conv_octs (P := Tryd.prog) hv 22 5 9 Tryd.underlying22 Tryd.underlying5 Tryd.underlying9
  have c2 := conv_octs (P := Tryd.prog) hu 22 5 9 Tryd.underlying22 Tryd.underlying5 Tryd.underlying9
  obtain ⟨b, hb⟩ : ∃ b, b = decide (xs = ys) := ⟨_, rfl⟩
  have hq := str_eqv xs ys hv.small hu.small
  rw [← hb] at hq ⊢
  clear hb hv hu
  go_enter Tryd.func27, Tryd.ntmps27
  go_wp2
  go_ret
  exact ⟨rfl, rfl⟩
def isPre (ys xs : List Nat) : Bool := decide (xs.take ys.length = ys)
set_option maxHeartbeats 400000 in
theorem hasPrefix_octs (v u : Value) (xs ys : List Nat) (w : World) (hv : Octs w v xs) (hu : Octs w u ys) :
    Calls Tryd.prog 36 #[v, u] w fun e w' => e = .returned (.bool (isPre ys xs)) ∧ w' = w := by
  have HV : Hid (Octs w v xs) := hv
  have HU : Hid (Octs w u ys) := hu
  have hl1 := hv.len
  have hl2 := hu.len
  obtain ⟨a, cap, rfl⟩ := hv.shape
  obtain ⟨a2, cap2, rfl⟩ := hu.shape
  have hc := hv.capLe
  clear hv hu
  by_cases hle : ys.length ≤ xs.length
  · have h1 : (ys.length : Int) ≤ xs.length := by omega
    have h2 : (ys.length : Int) ≤ cap := by omega
    have h3 : (0 : Int) ≤ ys.length := by omega
    go_enter Tryd.func36, Tryd.ntmps36
    go_wp2_with fail
    refine (equal_octs _ _ _ _ _ (HV.out.cut hle) HU.out).mono ?_
    rintro e w1 ⟨rfl, rfl⟩
    go_wp2
    go_ret
    exact ⟨rfl, rfl⟩
  · have h1 : ¬ (ys.length : Int) ≤ xs.length := by omega
    have HP : Hid (isPre ys xs = false) := decide_eq_false fun e => hle (by have := congrArg List.length e; rw [List.length_take] at this; omega)
    go_enter Tryd.func36, Tryd.ntmps36
    go_wp2
    go_ret
    rw [HP.out]
    exact ⟨rfl, rfl⟩
end Go.Proofs.YtndeknkfljnjoaaDoor
