/- Runs that lie apart, in plain numbers; two lists that a call owns, side by side. -/
import Derived.Test.YtebiccpnehphiaaDoorAwake8
import Derived.Maps.AppendAt
namespace Go.Proofs.YtebiccpnehphiaaDoor
open Go.RowKit
set_option linter.unusedVariables false

/-- The bits of these runs. -/
def runsB (rs : List (Nat × Nat)) : Nat → Bool := fun i => rs.any fun r => decide (r.1 ≤ i ∧ i < r.1 + r.2)
def sumK (rs : List (Nat × Nat)) : Nat := (rs.map (·.2)).sum
/-- They have no bit in common. -/
def Dis (r s : Nat × Nat) : Prop := ∀ i, r.1 ≤ i → i < r.1 + r.2 → s.1 ≤ i → i < s.1 + s.2 → False
theorem runsB_nil : runsB [] = noneB := rfl
theorem runsB_mem {rs : List (Nat × Nat)} {i : Nat} : runsB rs i = true ↔ ∃ r ∈ rs, r.1 ≤ i ∧ i < r.1 + r.2 := by simp [runsB]
theorem runsB_snoc (rs : List (Nat × Nat)) (x k : Nat) : putB (runsB rs) x k true = runsB (rs ++ [(x, k)]) := by
  funext i
  unfold putB
  by_cases h : x ≤ i ∧ i < x + k
  · rw [if_pos h]
    exact (runsB_mem.2 ⟨(x, k), by simp, h⟩).symm
  · rw [if_neg h]
    simp only [runsB, List.any_append, List.any_cons, List.any_nil, Bool.or_false]
    rw [decide_eq_false h, Bool.or_false]
theorem dis_new {rs : List (Nat × Nat)} {x k : Nat} (h : ∀ i, x ≤ i → i < x + k → runsB rs i = false) : ∀ r ∈ rs, Dis r (x, k) := by
  intro r hr i h1 h2 h3 h4
  have := h i h3 h4
  rw [runsB_mem.2 ⟨r, hr, h1, h2⟩] at this
  cases this
theorem pair_snoc {rs : List (Nat × Nat)} {s : Nat × Nat} (h : rs.Pairwise Dis) (hs : ∀ r ∈ rs, Dis r s) : (rs ++ [s]).Pairwise Dis := by
  rw [List.pairwise_append]
  exact ⟨h, List.pairwise_singleton _ _, fun a ha b hb => by rw [List.mem_singleton.1 hb]; exact hs a ha⟩
theorem runsB_drop {r : Nat × Nat} {rs : List (Nat × Nat)} (h : (r :: rs).Pairwise Dis) : putB (runsB (r :: rs)) r.1 r.2 false = runsB rs := by
  funext i
  unfold putB
  by_cases hi : r.1 ≤ i ∧ i < r.1 + r.2
  · rw [if_pos hi]
    symm
    cases hB : runsB rs i
    · rfl
    · obtain ⟨s, hs, h1, h2⟩ := runsB_mem.1 hB
      exact ((List.pairwise_cons.1 h).1 s hs i hi.1 hi.2 h1 h2).elim
  · rw [if_neg hi]
    simp only [runsB, List.any_cons]
    rw [decide_eq_false hi, Bool.false_or]
theorem runsB_head {r : Nat × Nat} {rs : List (Nat × Nat)} : ∀ i, r.1 ≤ i → i < r.1 + r.2 → runsB (r :: rs) i = true := fun i h1 h2 => runsB_mem.2 ⟨r, by simp, h1, h2⟩
theorem sumK_snoc (rs : List (Nat × Nat)) (x k : Nat) : sumK (rs ++ [(x, k)]) = sumK rs + k := by simp [sumK]
theorem hit_before {B : Nat → Bool} {k x : Nat} (h : Hit B k x) (hc : ∀ i, x + 1 ≤ i → i < x + 1 + k → B i = false) : B x = true := by
  obtain ⟨i, h1, h2, h3⟩ := h
  by_cases he : i = x
  · rw [← he]; exact h3
  · have := hc i (by omega) (by omega)
    rw [h3] at this
    cases this

/-- The firsts, and the lengths, as cells. -/
def atV (rs : List (Nat × Nat)) : List Value := rs.map fun r => Value.int .i64 (r.1 : Nat)
def ksV (rs : List (Nat × Nat)) : List Value := rs.map fun r => Value.int .i64 (r.2 : Nat)
theorem atV_snoc (rs : List (Nat × Nat)) (x k : Nat) : atV rs ++ [.int .i64 (x : Nat)] = atV (rs ++ [(x, k)]) := by simp [atV]
theorem ksV_snoc (rs : List (Nat × Nat)) (x k : Nat) : ksV rs ++ [.int .i64 (k : Nat)] = ksV (rs ++ [(x, k)]) := by simp [ksV]

/-- Two lists of ints that the call owns, in blocks of their own. -/
structure Two (w : World) (base : Nat) (va vb : Value) (n m : Nat) (xs ks : List Value) : Prop where
  a : w.ownsRow base 3 1 va n xs
  b : w.ownsRow base 3 1 vb m ks
  sep : ∀ g, va.ownBlock = some g → vb.ownBlock ≠ some g
theorem own_ne {w : World} {base n b : Nat} {e t : TypeId} {v : Value} {xs : List Value} {C : Array Value} {fr : Nat × Nat} (h : w.ownsRow base e 1 v n xs) (hb : w.heap[b]? = some (.cells C t fr)) (ht : t ≠ e) : v.ownBlock ≠ some b := by
  rcases h.2 with ⟨rfl, _⟩ | ⟨g, cap, cur, rfl, _, hg, _⟩
  · simp [Value.ownBlock]
  · intro e2
    simp [Value.ownBlock] at e2
    subst e2
    rw [hg] at hb
    simp at hb
    exact ht hb.2.1.symm
theorem Two.same {w w' : World} {base n m : Nat} {va vb : Value} {xs ks : List Value} (h : Two w base va vb n m xs ks) (h1 : ∀ g, va.ownBlock = some g → w'.heap[g]? = w.heap[g]?) (h2 : ∀ g, vb.ownBlock = some g → w'.heap[g]? = w.heap[g]?) : Two w' base va vb n m xs ks :=
  ⟨ownsRow_same h.a h1, ownsRow_same h.b h2, h.sep⟩
theorem Two.only {w w' : World} {base n m k : Nat} {va vb : Value} {xs ks : List Value} {C : Array Value} {t : TypeId} {fr : Nat × Nat} (h : Two w base va vb n m xs ks) (ho : Only k w w') (hk : w.heap[k]? = some (.cells C t fr)) (ht : t ≠ 3) : Two w' base va vb n m xs ks :=
  h.same (fun g hg => ho.heap (h.a.lt g hg).2 (fun e => own_ne h.a hk ht (e ▸ hg))) (fun g hg => ho.heap (h.b.lt g hg).2 (fun e => own_ne h.b hk ht (e ▸ hg)))
theorem Two.alloc {w : World} {base n m : Nat} {va vb : Value} {xs ks : List Value} (h : Two w base va vb n m xs ks) (o : Obj) : Two (w.alloc o) base va vb n m xs ks := ⟨h.a.alloc o, h.b.alloc o, h.sep⟩
theorem Two.drew {w : World} {base n m : Nat} {va vb : Value} {xs ks : List Value} (h : Two w base va vb n m xs ks) : Two w.drew base va vb n m xs ks := ⟨h.a, h.b, h.sep⟩
/-- Behind an append to the first one. -/
theorem Two.growA {w w' : World} {base n m n' : Nat} {va vb va' : Value} {xs ks xs' : List Value} (h : Two w base va vb n m xs ks) (hown : w'.ownsRow base 3 1 va' n' xs') (hg : w.grownBy w' va.ownBlock) (hat : va'.ownBlock = va.ownBlock ∨ va'.ownBlock = some w.heap.size) : Two w' base va' vb n' m xs' ks := by
  refine ⟨hown, ownsRow_same h.b fun g hg2 => hg.block g (h.b.lt g hg2).2 (fun e => h.sep g e.symm hg2), fun g h1 h2 => ?_⟩
  rcases hat with e | e
  · exact h.sep g (e ▸ h1) h2
  · rw [e] at h1
    have := (h.b.lt g h2).2
    simp at h1
    omega
/-- Behind an append to the second one. -/
theorem Two.growB {w w' : World} {base n m m' : Nat} {va vb vb' : Value} {xs ks ks' : List Value} (h : Two w base va vb n m xs ks) (hown : w'.ownsRow base 3 1 vb' m' ks') (hg : w.grownBy w' vb.ownBlock) (hat : vb'.ownBlock = vb.ownBlock ∨ vb'.ownBlock = some w.heap.size) : Two w' base va vb' n m' xs ks' := by
  refine ⟨ownsRow_same h.a fun g hg2 => hg.block g (h.a.lt g hg2).2 (fun e => h.sep g hg2 e.symm), hown, fun g h1 h2 => ?_⟩
  rcases hat with e | e
  · exact h.sep g h1 (e ▸ h2)
  · rw [e] at h2
    have := (h.a.lt g h1).2
    simp at h2
    omega
/-- A row of bits lies beside what grew. -/
theorem RowAt.grown {w w' : World} {p b n : Nat} {B : Nat → Bool} {base k : Nat} {v : Value} {xs : List Value} (h : RowAt w p b n B) (hown : w.ownsRow base 3 1 v k xs) (hg : w.grownBy w' v.ownBlock) : RowAt w' p b n B :=
  h.same (hg.block p h.p_lt (fun e => own_ne hown h.head (by decide) e.symm)) (hg.block b h.b_lt (fun e => own_ne hown h.body (by decide) e.symm))
theorem grewOwn {w w' : World} {B n : Nat} {v : Value} {xs : List Value} {a : World} (h : Below B a w) (hown : w.ownsRow B 3 1 v n xs) (hg : w.grownBy w' v.ownBlock) (hB : B ≤ w.heap.size) : Below B a w' :=
  h.grown hg hB fun j hj => (hown.lt j hj).1
theorem own_shape {w : World} {base n : Nat} {e : TypeId} {v : Value} {xs : List Value} (h : w.ownsRow base e 1 v n xs) : ∃ a c, v = .slice a n c := by
  rcases h.2 with ⟨rfl, rfl⟩ | ⟨g, cap, cur, rfl, _⟩
  · exact ⟨none, 0, rfl⟩
  · exact ⟨_, _, rfl⟩
/-- An element of such a list. -/
theorem own_at {w : World} {base n : Nat} {v : Value} {xs : List Value} {j : Nat} {u : Value} (h : w.ownsRow base 3 1 v n xs) (hu : xs[j]? = some u) : ∃ g cap, v = .slice (some ⟨g, 0, none⟩) n cap ∧ j < n ∧ w.cell? ⟨g, j, none⟩ = some u := by
  have hl := h.1
  have hj : j < n := by have := (List.getElem?_eq_some_iff.1 hu).1; omega
  rcases h.2 with ⟨rfl, rfl⟩ | ⟨g, cap, cur, rfl, _⟩
  · omega
  · have := h.cells (g := g) rfl j u hu
    rw [addr_add] at this
    exact ⟨g, cap, rfl, hj, this⟩
end Go.Proofs.YtebiccpnehphiaaDoor
