/- Slices of words of 64 bits, however they came about; appended to a row of the call's own, copied into a row that is known whole. Generic over the program. -/
import Derived.Test.YthpodknhidgedaaDoorKept
import Derived.Laws.CopyOwn
namespace Go.Proofs.YthpodknhidgedaaDoor
open Go.RowKit
set_option linter.unusedVariables false

/-- Words as cells. -/
def wds (us : List Nat) : List Value := us.map fun u => Value.int .u64 (u : Nat)
theorem wds_length (us : List Nat) : (wds us).length = us.length := by simp [wds]
theorem wds_append (a b : List Nat) : wds (a ++ b) = wds a ++ wds b := by simp [wds]
theorem wds_one (us : List Nat) : ∀ v ∈ wds us, v.oneCell' = true := by
  intro u hu
  simp only [wds, List.mem_map] at hu
  obtain ⟨z, _, rfl⟩ := hu
  rfl
theorem wds_inj {a b : List Nat} (h : wds a = wds b) : a = b := by
  have := congrArg (List.map fun v => (intOf v).toNat) h
  simpa [wds, Function.comp_def, intOf] using this
theorem wds_get (us : List Nat) (j : Nat) (h : j < us.length) : (wds us)[j]? = some (Value.int .u64 (us[j]?.getD 0 : Nat)) := by
  simp [wds, List.getElem?_eq_getElem h]

/-- The value is a slice whose elements are these words. -/
def Wds (w : World) (v : Value) (us : List Nat) : Prop :=
  (∀ z ∈ us, z < 18446744073709551616) ∧ us.length ≤ maxLen ∧ ∃ a cap, v = .slice a us.length cap ∧
    ((a = none ∧ us = [] ∧ cap = 0) ∨ ∃ x, a = some x ∧ (us = [] ∨ ∃ b off, x = ⟨b, off, none⟩ ∧ b < w.heap.size ∧ ∀ j, j < us.length → w.cell? ⟨b, off + j, none⟩ = some (.int .u64 (us[j]?.getD 0 : Nat))))
theorem Wds.kept {w w' : World} {v : Value} {us : List Nat} (h : Wds w v us) (hb : Below w.heap.size w w') : Wds w' v us := by
  obtain ⟨h1, h2, a, cap, rfl, h5⟩ := h
  refine ⟨h1, h2, a, cap, rfl, ?_⟩
  rcases h5 with h5 | ⟨x, rfl, h5⟩
  · exact .inl h5
  · refine .inr ⟨x, rfl, ?_⟩
    rcases h5 with h5 | ⟨b, off, rfl, hlt, hc⟩
    · exact .inl h5
    · exact .inr ⟨b, off, rfl, Nat.lt_of_lt_of_le hlt hb.size, fun j hj => (hb.cell (p := ⟨b, off + j, none⟩) hlt).trans (hc j hj)⟩
theorem Wds.shape {w : World} {v : Value} {us : List Nat} (h : Wds w v us) : ∃ a cap, v = .slice a us.length cap := by
  obtain ⟨_, _, a, cap, e, _⟩ := h
  exact ⟨a, cap, e⟩
theorem Wds.addr {w : World} {a : Option Addr} {n cap : Nat} {us : List Nat} (h : Wds w (.slice a n cap) us) (h0 : 0 < n) : ∃ b off, a = some ⟨b, off, none⟩ ∧ b < w.heap.size ∧ ∀ j, j < n → w.cell? ⟨b, off + j, none⟩ = some (.int .u64 (us[j]?.getD 0 : Nat)) := by
  obtain ⟨_, _, a', cap', e, h5⟩ := h
  simp only [Value.slice.injEq] at e
  obtain ⟨rfl, rfl, rfl⟩ := e
  rcases h5 with ⟨_, rfl, _⟩ | ⟨x, rfl, rfl | ⟨b, off, rfl, hlt, hc⟩⟩
  · simp at h0
  · simp at h0
  · exact ⟨b, off, rfl, hlt, hc⟩
theorem Wds.lenEq {w : World} {a : Option Addr} {n cap : Nat} {us : List Nat} (h : Wds w (.slice a n cap) us) : us.length = n := by
  obtain ⟨_, _, a', cap', e, _⟩ := h
  simp only [Value.slice.injEq] at e
  exact e.2.1.symm
theorem wd_small (l : List Nat) (h : ∀ z ∈ l, z < 18446744073709551616) (k : Nat) : l[k]?.getD 0 < 18446744073709551616 := by
  by_cases hk : k < l.length
  · rw [List.getElem?_eq_getElem hk]; exact h _ (List.getElem_mem hk)
  · rw [List.getElem?_eq_none (by omega)]; decide
/-- Where its cells lie. -/
theorem Wds.src {w : World} {v : Value} {us : List Nat} (h : Wds w v us) : ∃ sp cap, v = .slice sp us.length cap ∧ (0 < us.length → ∃ ad, sp = some ad ∧ ∀ j u, (wds us)[j]? = some u → w.cell? (ad.add j) = some u) := by
  obtain ⟨h1, h2, ad, cap, rfl, h5⟩ := h
  refine ⟨ad, cap, rfl, fun hp => ?_⟩
  rcases h5 with ⟨_, rfl, _⟩ | ⟨x, rfl, rfl | ⟨b, off, rfl, hlt, hc⟩⟩
  · simp at hp
  · simp at hp
  · refine ⟨_, rfl, fun j u hu => ?_⟩
    have hj : j < us.length := by have := (List.getElem?_eq_some_iff.1 hu).1; rwa [wds_length] at this
    rw [wds_get us j hj] at hu
    have e1 : (⟨b, off, none⟩ : Addr).add j = ⟨b, off + j, none⟩ := by unfold Addr.add; split <;> simp_all
    rw [e1, hc j hj, hu]
/-- A row that is known whole. -/
theorem Wds.ofBlock {w : World} {g n cap : Nat} {us : List Nat} {t : TypeId} (hg : w.heap[g]? = some (.cells (wds us).toArray t (0, 0))) (hz : ∀ z ∈ us, z < 18446744073709551616) (hn : us.length = n) (hl : n ≤ maxLen) : Wds w (.slice (some ⟨g, 0, none⟩) n cap) us := by
  subst hn
  refine ⟨hz, hl, _, cap, rfl, .inr ⟨_, rfl, .inr ⟨g, 0, rfl, lt_of_heap hg, fun j hj => ?_⟩⟩⟩
  rw [cell_of_row w g _ _ _ _ hg, Nat.zero_add, List.getElem?_toArray]
  exact wds_get us j hj
/-- A row that the call owns. -/
theorem Wds.ofOwn {w : World} {base : Nat} {e : TypeId} {v : Value} {n : Nat} {us : List Nat} (h : w.ownsRow base e 1 v n (wds us)) (hz : ∀ z ∈ us, z < 18446744073709551616) : Wds w v us := by
  have h1 := h.1
  simp [wds_length] at h1
  rcases h.2 with ⟨rfl, h0⟩ | ⟨g, cap, cur, rfl, hb, hg, hn, hm, hs, ht⟩
  · have : us = [] := List.eq_nil_of_length_eq_zero (by omega)
    subst this
    exact ⟨hz, by simp, none, 0, rfl, .inl ⟨rfl, rfl, rfl⟩⟩
  · refine ⟨hz, by omega, _, cap, by rw [h1], .inr ⟨_, rfl, .inr ⟨g, 0, rfl, (Array.getElem?_eq_some_iff.1 hg).1, ?_⟩⟩⟩
    intro j hj
    have := h.cells (g := g) rfl j (.int .u64 (us[j]?.getD 0 : Nat)) (wds_get us j hj)
    rw [addr_add] at this
    rw [Nat.zero_add]; exact this
/-- A row that came in. -/
theorem Wds.ofRow {w : World} {a : Option Addr} {len cap : Nat} {xs : List Int} (h : IsRow .u64 w a len cap xs) : Wds w (.slice a len cap) ((xs.take len).map Int.toNat) := by
  rcases h with ⟨rfl, rfl, rfl, rfl⟩ | ⟨x, rfl, hl, hm, hz, hc, hw⟩
  · exact ⟨by simp, by simp, none, 0, rfl, .inl ⟨rfl, rfl, rfl⟩⟩
  · have hlen : ((xs.take len).map Int.toNat).length = len := by rw [List.length_map, List.length_take]; omega
    have hwf : ∀ z ∈ xs, 0 ≤ z ∧ z ≤ 18446744073709551615 := fun z hz' => by
      have := hw z hz'
      simpa [Lit.wf, IntKind.min, IntKind.max, IntKind.signed, IntKind.bits] using this
    refine ⟨?_, by omega, _, cap, by rw [hlen], .inr ⟨x, rfl, ?_⟩⟩
    · intro z hz'
      rw [List.mem_map] at hz'
      obtain ⟨y, hy, rfl⟩ := hz'
      have := hwf y (List.mem_of_mem_take hy)
      omega
    · by_cases h0 : len = 0
      · left; subst h0; rfl
      · right
        obtain ⟨b, off, rfl, hc'⟩ := ints_at hc (by omega)
        refine ⟨b, off, rfl, cell_lt (hc' 0 (by omega)), fun j hj => ?_⟩
        rw [hlen] at hj
        rw [hc' j (by omega)]
        have hj' : j < xs.length := by omega
        have := hwf _ (List.getElem_mem hj')
        simp [List.getD, List.getElem?_map, List.getElem?_take_of_lt hj, List.getElem?_eq_getElem hj']
        omega

/-- 'append(own, words...)'. -/
theorem wpList_append_wds {P : Program} (w : World) {ops : Array Oper} {rest : List Oper} {o : Oper} {a : Act} {Q : Exit → Act → World → Prop} (hgd : o.guard = none) (s x : Operand) (t : TypeId)
    (ho : o.op = .call { callee := .builtin .append, args := #[s, x], argTypes := #[t, t] })
    (base : Nat) (e : TypeId) (i : TypeInfo) (ht : P.underlying t = some (.slice e)) (hi : P.info? e = some i) (hz : i.zero = some (.int .u64 0)) (hsize : i.size = 1) (hby : i.bytes = 8)
    (v : Value) (n : Nat) (xs : List Nat) (hs : a.eval s = v) (hown : w.ownsRow base e 1 v n (wds xs))
    (y : Value) (zs : List Nat) (hx : a.eval x = y) (hsrc : Wds w y zs) (h63 : n + zs.length ≤ 1000000) (hbase : base ≤ w.heap.size)
    (h : ∀ v' w', w'.ownsRow base e 1 v' (n + zs.length) (wds (xs ++ zs)) → w.grownBy w' v.ownBlock → wpList P ops Q rest (a.put o.dst v') w') : wpList P ops Q (o :: rest) a w := by
  have hp := hsrc.src
  obtain ⟨h1, h2, sp, cap, rfl, h5⟩ := hsrc
  obtain ⟨sp', cap', e', hp⟩ := hp
  simp only [Value.slice.injEq] at e'
  obtain ⟨rfl, _, rfl⟩ := e'
  by_cases h0 : zs = []
  · subst h0
    rcases h5 with ⟨rfl, _, rfl⟩ | ⟨ad, rfl, _⟩
    · refine wpList_append_own_none hgd s x t ho base e i 1 ht hi v n _ hs hown hx ?_
      exact h v w (by simpa using hown) (World.grownBy.refl _ _)
    · refine wpList_append_own w hgd s x t ho base e i (.int .u64 0) 1 8 ht hi hz hsize hby rfl (by decide) v n _ hs hown ad 0 cap (wds []) hx rfl ?_ ?_ (by unfold maxLen; omega) (by simp at h63; omega) hbase ?_
      · intro j u hu
        simp [wds] at hu
      · intro u hu
        exact wds_one _ u hu
      · intro v' w' hw hg _
        rw [← wds_append] at hw
        exact h v' w' hw hg
  · have hl : 0 < zs.length := by
      cases zs with
      | nil => exact absurd rfl h0
      | cons z r => simp
    obtain ⟨ad, rfl, hc⟩ := hp hl
    refine wpList_append_own w hgd s x t ho base e i (.int .u64 0) 1 8 ht hi hz hsize hby rfl (by decide) v n _ hs hown ad zs.length cap (wds zs) hx (by rw [wds_length, Nat.mul_one]) hc (wds_one zs) (by unfold maxLen; omega) (by omega) hbase ?_
    intro v' w' hw hg _
    rw [← wds_append] at hw
    exact h v' w' hw hg

/-- 'copy(row, words)', of as many as the row has. -/
theorem wpList_copy_wds {P : Program} {w : World} {ops : Array Oper} {rest : List Oper} {o : Oper} {a : Act} {Q : Exit → Act → World → Prop} (hgd : o.guard = none) (d s : Operand) (dT sT : TypeId)
    (ho : o.op = .call { callee := .builtin .copy, args := #[d, s], argTypes := #[dT, sT] }) (elem : TypeId) (hu : P.underlying dT = some (.slice elem)) (hsz : (P.info? elem).map (·.size) = some 1)
    (g n cap : Nat) (hd : a.eval d = .slice (some ⟨g, 0, none⟩) n cap) (y : Value) (us : List Nat) (hs : a.eval s = y) (hsrc : Wds w y us) (hn : us.length = n)
    (cur : List Value) (t : TypeId) (hg : w.heap[g]? = some (.cells cur.toArray t (0, 0))) (hc : cur.length = n)
    (h : ∀ w', Hid (w'.heap[g]? = some (.cells (wds us).toArray t (0, 0))) → Hid (Only g w w') → wpList P ops Q rest (a.put o.dst (goInt n)) w') : wpList P ops Q (o :: rest) a w := by
  obtain ⟨sp, sc, rfl, hp⟩ := hsrc.src
  subst hn
  by_cases h0 : us.length = 0
  · have e0 : us = [] := List.eq_nil_of_length_eq_zero h0
    refine wpList_copy_nothing hgd d s dT sT ho elem hu hsz _ sp _ cap _ sc hd hs (by rw [h0]; rfl) ?_
    have e1 : cur = wds us := by rw [e0]; exact List.eq_nil_of_length_eq_zero (by rw [hc, h0])
    have := h w (by rw [← e1]; exact hg) (Only.refl _ _)
    rwa [h0] at this
  · obtain ⟨ad, rfl, hcell⟩ := hp (by omega)
    refine wpList_copy_own hgd d s dT sT ho elem hu hsz g 0 _ cap ad _ sc hd hs cur.toArray t hg (wds us) (by rw [wds_length]; exact (Nat.min_self _).symm) hcell (by rw [wds_length, Nat.zero_add]; simp [hc]) (wds_one us) ?_
    rw [wds_length]
    refine h _ ?_ ?_
    · unfold Hid
      have := setRow_heap w g cur.toArray (cur.toArray.toList.take 0 ++ (wds us ++ cur.toArray.toList.drop (0 + us.length))).toArray t _ hg
      rw [this]
      simp [← hc]
    · exact Kept.trans (K := fun k => k < w.heap.size ∧ k ≠ g) (Kept.refl _ _) ⟨rfl, rfl, rfl, by simp [World.setRow], fun k hk => setRow_other w g k _ hk.2⟩
end Go.Proofs.YthpodknhidgedaaDoor
