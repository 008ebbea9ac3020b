/- Slices of keys, however they came about; appended to a row of the call's own. -/
import Derived.Test.YtfclhehpbniapaaDoorWalkKey10
import Derived.Test.YtfclhehpbniapaaDoorOpens
import Derived.Maps.AppendAt
import Derived.Laws.AppendOwnNone
import Derived.Deep.Strs
import Derived.ChangeArms
import Derived.DataReads
import Derived.OrdersHeld
namespace Go.Proofs.YtfclhehpbniapaaDoor
open Go.RowKit Go.ChangeShapes Go.WideShapes Go.Deep
set_option linter.unusedVariables false

/-- Keys as cells. -/
def kcells (ks : List Ky) : List Value := ks.flatMap fun k => [.int .i64 k.1, .int .i64 k.2]
theorem kcells_length (ks : List Ky) : (kcells ks).length = ks.length * 2 := by
  induction ks with
  | nil => rfl
  | cons k r ih => simp only [kcells, List.flatMap_cons, List.length_append, List.length_cons, List.length_nil] at *; omega
theorem kcells_append (a b : List Ky) : kcells (a ++ b) = kcells a ++ kcells b := by simp [kcells]
theorem kcells_one (ks : List Ky) : ∀ v ∈ kcells ks, v.oneCell' = true := by
  intro u hu
  simp only [kcells, List.mem_flatMap] at hu
  obtain ⟨k, _, h⟩ := hu
  simp at h
  rcases h with rfl | rfl <;> rfl
theorem kcells_at : ∀ (ks : List Ky) (j : Nat) (k : Ky), ks[j]? = some k → (kcells ks)[j * 2]? = some (.int .i64 k.1) ∧ (kcells ks)[j * 2 + 1]? = some (.int .i64 k.2)
  | [], j, k, h => by simp at h
  | x :: r, 0, k, h => by
    simp at h; subst h
    exact ⟨rfl, rfl⟩
  | x :: r, j + 1, k, h => by
    have ih := kcells_at r j k (by simpa using h)
    have e : kcells (x :: r) = .int .i64 x.1 :: .int .i64 x.2 :: kcells r := rfl
    rw [e, show (j + 1) * 2 = j * 2 + 1 + 1 by omega]
    exact ⟨by simpa using ih.1, by simpa using ih.2⟩
theorem kcells_inv : ∀ (ks : List Ky) (i : Nat) (u : Value), (kcells ks)[i]? = some u → ∃ j k, ks[j]? = some k ∧ (i = j * 2 ∧ u = .int .i64 k.1 ∨ i = j * 2 + 1 ∧ u = .int .i64 k.2)
  | [], i, u, h => by simp [kcells] at h
  | x :: r, 0, u, h => ⟨0, x, rfl, .inl ⟨rfl, by simpa [kcells] using h.symm⟩⟩
  | x :: r, 1, u, h => ⟨0, x, rfl, .inr ⟨rfl, by simpa [kcells] using h.symm⟩⟩
  | x :: r, i + 2, u, h => by
    have e : kcells (x :: r) = .int .i64 x.1 :: .int .i64 x.2 :: kcells r := rfl
    rw [e] at h
    obtain ⟨j, k, h1, h2⟩ := kcells_inv r i u (by simpa using h)
    refine ⟨j + 1, k, by simpa using h1, ?_⟩
    rcases h2 with ⟨rfl, h2⟩ | ⟨rfl, h2⟩
    · exact .inl ⟨by omega, h2⟩
    · exact .inr ⟨by omega, h2⟩

/-- The value is a slice whose elements are these keys. -/
def Keys (w : World) (v : Value) (ks : List Ky) : Prop :=
  (∀ k ∈ ks, KI k) ∧ ks.length ≤ maxLen ∧ ∃ a cap, v = .slice a ks.length cap ∧ ks.length ≤ cap ∧ cap ≤ maxLen ∧
    ((a = none ∧ cap = 0) ∨ ∃ x, a = some x ∧ (ks = [] ∨ ∃ b off, x = ⟨b, off, none⟩ ∧ b < w.heap.size ∧ ∀ j k, ks[j]? = some k → w.cell? ⟨b, off + j * 2, none⟩ = some (.int .i64 k.1) ∧ w.cell? ⟨b, off + j * 2 + 1, none⟩ = some (.int .i64 k.2)))
theorem Keys.nil (w : World) : Keys w (.slice none 0 0) [] := ⟨by simp, by simp, none, 0, rfl, Nat.le_refl _, by simp, .inl ⟨rfl, rfl⟩⟩
theorem Keys.shape {w : World} {v : Value} {ks : List Ky} (h : Keys w v ks) : ∃ a cap, v = .slice a ks.length cap := by
  obtain ⟨_, _, a, cap, e, _⟩ := h
  exact ⟨a, cap, e⟩
theorem Keys.spared {w w' : World} {v : Value} {ks : List Ky} (h : Keys w v ks) (hs : w.heap.size ≤ w'.heap.size) (hg : ∀ g, v.ownBlock = some g → g < w.heap.size → w'.heap[g]? = w.heap[g]?) : Keys w' v ks := by
  obtain ⟨h1, h2, a, cap, rfl, h3, h4, h5⟩ := h
  refine ⟨h1, h2, a, cap, rfl, h3, h4, ?_⟩
  rcases h5 with h5 | ⟨x, rfl, h5⟩
  · exact .inl h5
  · refine .inr ⟨x, rfl, ?_⟩
    rcases h5 with h5 | ⟨b, off, rfl, hlt, hc⟩
    · exact .inl h5
    · exact .inr ⟨b, off, rfl, Nat.lt_of_lt_of_le hlt hs, fun j k hk => ⟨(World.cell?_of_block (a := ⟨b, off + j * 2, none⟩) (hg b rfl hlt)).trans (hc j k hk).1, (World.cell?_of_block (a := ⟨b, off + j * 2 + 1, none⟩) (hg b rfl hlt)).trans (hc j k hk).2⟩⟩
theorem Keys.kept {w w' : World} {v : Value} {ks : List Ky} (h : Keys w v ks) (hb : Below w.heap.size w w') : Keys w' v ks := h.spared hb.size fun g _ hg => hb.block g hg
theorem Keys.alloc {w : World} {v : Value} {ks : List Ky} (h : Keys w v ks) (o : Obj) : Keys (w.alloc o) v ks := h.kept ((Below.refl _ _).alloc (Nat.le_refl _) _)
theorem Keys.grown {w w' : World} {v : Value} {ks : List Ky} {row : Option Nat} (h : Keys w v ks) (hg : w.grownBy w' row) (hne : v.ownBlock ≠ row) : Keys w' v ks :=
  h.spared hg.size fun g hv hlt => hg.block g hlt (fun e => hne (hv.trans e))
theorem Keys.lenEq {w : World} {a : Option Addr} {n cap : Nat} {ks : List Ky} (h : Keys w (.slice a n cap) ks) : ks.length = n := by
  obtain ⟨_, _, a', cap', e, _⟩ := h
  simp only [Value.slice.injEq] at e
  exact e.2.1.symm
theorem Keys.capLe {w : World} {a : Option Addr} {n cap : Nat} {ks : List Ky} (h : Keys w (.slice a n cap) ks) : n ≤ cap ∧ cap ≤ maxLen := by
  obtain ⟨_, _, a', cap', e, h3, h4, _⟩ := h
  simp only [Value.slice.injEq] at e
  obtain ⟨rfl, rfl, rfl⟩ := e
  exact ⟨h3, h4⟩
theorem Keys.addr {w : World} {a : Option Addr} {n cap : Nat} {ks : List Ky} (h : Keys w (.slice a n cap) ks) (h0 : 0 < n) : ∃ b off, a = some ⟨b, off, none⟩ ∧ b < w.heap.size ∧ ∀ j k, ks[j]? = some k → w.cell? ⟨b, off + j * 2, none⟩ = some (.int .i64 k.1) ∧ w.cell? ⟨b, off + j * 2 + 1, none⟩ = some (.int .i64 k.2) := by
  obtain ⟨_, _, a', cap', e, h3, h4, h5⟩ := h
  simp only [Value.slice.injEq] at e
  obtain ⟨rfl, rfl, rfl⟩ := e
  rcases h5 with ⟨_, rfl⟩ | ⟨x, rfl, rfl | ⟨b, off, rfl, hlt, hc⟩⟩
  · omega
  · simp at h0
  · exact ⟨b, off, rfl, hlt, hc⟩
theorem Keys.fit {w : World} {v : Value} {ks : List Ky} (h : Keys w v ks) {j : Nat} {k : Ky} (hj : ks[j]? = some k) : KI k := h.1 k (List.mem_of_getElem? hj)
/-- 'x[:n]'. -/
theorem Keys.front {w : World} {a : Option Addr} {l cap n : Nat} {ks : List Ky} (h : Keys w (.slice a l cap) ks) (hn : n ≤ l) : Keys w (.slice a n cap) (ks.take n) := by
  have hl := h.lenEq
  have hc := h.capLe
  have hlen : (ks.take n).length = n := by rw [List.length_take]; omega
  refine ⟨fun z hz => h.1 z (List.mem_of_mem_take hz), by omega, a, cap, by rw [hlen], by omega, hc.2, ?_⟩
  by_cases h0 : 0 < l
  · obtain ⟨b, off, rfl, hlt, hcell⟩ := h.addr h0
    refine .inr ⟨_, rfl, .inr ⟨b, off, rfl, hlt, fun j k hj => ?_⟩⟩
    have hj' : j < n := by have := (List.getElem?_eq_some_iff.1 hj).1; omega
    rw [List.getElem?_take_of_lt hj'] at hj
    exact hcell j k hj
  · obtain ⟨_, _, a', cap', e, h3, h4, h5⟩ := h
    simp only [Value.slice.injEq] at e
    obtain ⟨rfl, rfl, rfl⟩ := e
    rcases h5 with h5 | ⟨x, rfl, h5⟩
    · exact .inl h5
    · refine .inr ⟨x, rfl, .inl ?_⟩
      exact List.eq_nil_of_length_eq_zero (by omega)
/-- 'x[n:]', of a row with an address. -/
theorem Keys.back {w : World} {b off l cap n cap' : Nat} {ks : List Ky} (h : Keys w (.slice (some ⟨b, off, none⟩) l cap) ks) (hn : n < l) (hc' : l - n ≤ cap') (hc2 : cap' ≤ maxLen) : Keys w (.slice (some ⟨b, off + n * 2, none⟩) (l - n) cap') (ks.drop n) := by
  have hl := h.lenEq
  have hlen : (ks.drop n).length = l - n := by rw [List.length_drop]; omega
  obtain ⟨b', off', e, hlt, hcell⟩ := h.addr (by omega)
  simp only [Option.some.injEq, Addr.mk.injEq, and_true] at e
  obtain ⟨rfl, rfl⟩ := e
  refine ⟨fun z hz => h.1 z (List.mem_of_mem_drop hz), by omega, _, cap', by rw [hlen], by omega, hc2, .inr ⟨_, rfl, .inr ⟨b, off + n * 2, rfl, hlt, fun j k hj => ?_⟩⟩⟩
  rw [List.getElem?_drop] at hj
  have := hcell (n + j) k hj
  rw [show off + n * 2 + j * 2 = off + (n + j) * 2 by omega]
  exact this
/-- Where its cells lie. -/
theorem Keys.src {w : World} {v : Value} {ks : List Ky} (h : Keys w v ks) : ∃ sp cap, v = .slice sp ks.length cap ∧ (0 < ks.length → ∃ ad, sp = some ad ∧ ∀ j u, (kcells ks)[j]? = some u → w.cell? (ad.add j) = some u) := by
  obtain ⟨h1, h2, ad, cap, rfl, h3, h4, h5⟩ := h
  refine ⟨ad, cap, rfl, fun hp => ?_⟩
  rcases h5 with ⟨_, rfl⟩ | ⟨x, rfl, rfl | ⟨b, off, rfl, hlt, hc⟩⟩
  · omega
  · simp at hp
  · refine ⟨_, rfl, fun i u hu => ?_⟩
    obtain ⟨j, k, hj, h⟩ := kcells_inv ks i u hu
    have e1 : (⟨b, off, none⟩ : Addr).add i = ⟨b, off + i, none⟩ := by unfold Addr.add; split <;> simp_all
    rw [e1]
    rcases h with ⟨rfl, rfl⟩ | ⟨rfl, rfl⟩
    · exact (hc j k hj).1
    · exact (hc j k hj).2
/-- A row that the call owns. -/
theorem Keys.ofOwn {w : World} {base : Nat} {e : TypeId} {v : Value} {n : Nat} {ks : List Ky} (h : w.ownsRow base e 2 v n (kcells ks)) (hz : ∀ k ∈ ks, KI k) : Keys w v ks := by
  have h1 := h.1
  rw [kcells_length] at h1
  have h1' : ks.length = n := by omega
  rcases h.2 with ⟨rfl, h0⟩ | ⟨g, cap, cur, rfl, hb, hg, hn, hm, hs, ht⟩
  · have : ks = [] := List.eq_nil_of_length_eq_zero (by omega)
    subst this
    exact Keys.nil w
  · refine ⟨hz, by omega, _, cap, by rw [h1'], by omega, hm, .inr ⟨_, rfl, .inr ⟨g, 0, rfl, (Array.getElem?_eq_some_iff.1 hg).1, ?_⟩⟩⟩
    intro j k hj
    have a1 := h.cells (g := g) rfl _ _ (kcells_at ks j k hj).1
    have a2 := h.cells (g := g) rfl _ _ (kcells_at ks j k hj).2
    rw [addr_add] at a1 a2
    rw [Nat.zero_add]
    exact ⟨a1, a2⟩
/-- A row of one that a literal makes. -/
theorem Keys.one {w : World} {k : Ky} {e : TypeId} (hz : KI k) : Keys (w.alloc (.cells #[.int .i64 k.1, .int .i64 k.2] e)) (.slice (some ⟨w.heap.size, 0, none⟩) 1 1) [k] := by
  refine ⟨fun y hy => by rw [List.mem_singleton.1 hy]; exact hz, by simp [maxLen], _, 1, rfl, Nat.le_refl _, by simp [maxLen], .inr ⟨_, rfl, .inr ⟨w.heap.size, 0, rfl, by simp, fun j k' hj => ?_⟩⟩⟩
  have hj0 : j = 0 := by have := (List.getElem?_eq_some_iff.1 hj).1; simp at this; exact this
  subst hj0
  simp at hj
  subst hj
  exact ⟨by simp, by simp⟩

/-- 'append(own, keys...)'. -/
theorem wpList_append_keys {P : Program} (w : World) {ops : Array Oper} {rest : List Oper} {o : Oper} {a : Act} {Q : Exit → Act → World → Prop} (hgd : o.guard = none) (s x : Operand) (t : TypeId)
    (ho : o.op = .call { callee := .builtin .append, args := #[s, x], argTypes := #[t, t] })
    (base : Nat) (e : TypeId) (i : TypeInfo) (ht : P.underlying t = some (.slice e)) (hi : P.info? e = some i) (hz : i.zero = some (.agg #[.int .i64 0, .int .i64 0])) (hsize : i.size = 2) (hby : i.bytes = 16)
    (v : Value) (n : Nat) (xs : List Ky) (hs : a.eval s = v) (hown : w.ownsRow base e 2 v n (kcells xs))
    (y : Value) (ks : List Ky) (hx : a.eval x = y) (hsrc : Keys w y ks) (h63 : n + ks.length ≤ 1000000) (hbase : base ≤ w.heap.size)
    (h : ∀ v' w', w'.ownsRow base e 2 v' (n + ks.length) (kcells (xs ++ ks)) → w.grownBy w' v.ownBlock → (v'.ownBlock = v.ownBlock ∨ v'.ownBlock = some w.heap.size) → wpList P ops Q rest (a.put o.dst v') w') : wpList P ops Q (o :: rest) a w := by
  have hp := hsrc.src
  obtain ⟨h1, h2, sp, cap, rfl, h3, h4, h5⟩ := hsrc
  obtain ⟨sp', cap', e', hp⟩ := hp
  simp only [Value.slice.injEq] at e'
  obtain ⟨rfl, _, rfl⟩ := e'
  by_cases h0 : ks = []
  · subst h0
    rcases h5 with ⟨rfl, rfl⟩ | ⟨ad, rfl, _⟩
    · refine wpList_append_own_none hgd s x t ho base e i 2 ht hi v n _ hs hown hx ?_
      exact h v w (by simpa using hown) (World.grownBy.refl _ _) (.inl rfl)
    · refine wpList_append_own_at w hgd s x t ho base e i _ 2 16 ht hi hz hsize hby rfl (by decide) v n _ hs hown ad 0 cap (kcells []) hx rfl ?_ ?_ (by unfold maxLen; omega) (by simp at h63; omega) hbase ?_
      · intro j u hu
        simp [kcells] at hu
      · intro u hu
        exact kcells_one _ u hu
      · intro v' w' hw hg _ hat
        rw [← kcells_append] at hw
        exact h v' w' hw hg hat
  · have hl : 0 < ks.length := by
      cases ks with
      | nil => exact absurd rfl h0
      | cons z r => simp
    obtain ⟨ad, rfl, hc⟩ := hp hl
    refine wpList_append_own_at w hgd s x t ho base e i _ 2 16 ht hi hz hsize hby rfl (by decide) v n _ hs hown ad ks.length cap (kcells ks) hx (kcells_length _) hc (kcells_one ks) (by unfold maxLen; omega) (by omega) hbase ?_
    intro v' w' hw hg _ hat
    rw [← kcells_append] at hw
    exact h v' w' hw hg hat
theorem grewKeys {w w' : World} {B n : Nat} {e : TypeId} {v : Value} {xs : List Value} {a : World} {z : Nat} (h : Below B a w) (hown : w.ownsRow B e z v n xs) (hg : w.grownBy w' v.ownBlock) (hB : B ≤ w.heap.size) : Below B a w' :=
  h.grown hg hB fun j hj => (hown.lt j hj).1
theorem own_shapeZ {w : World} {base n z : Nat} {e : TypeId} {v : Value} {xs : List Value} (h : w.ownsRow base e z v n xs) : ∃ a c, v = .slice a n c := by
  rcases h.2 with ⟨rfl, rfl⟩ | ⟨g, cap, cur, rfl, _⟩
  · exact ⟨none, 0, rfl⟩
  · exact ⟨_, _, rfl⟩

/-! ### Keys that came in -/
theorem add_plain10 (b off j : Nat) : (⟨b, off, none⟩ : Addr).add j = ⟨b, off + j, none⟩ := by unfold Addr.add; split <;> simp_all
set_option maxRecDepth 20000 in
theorem open_key {H : Type} {enc : TypeId × Value → H} {w : World} {base : Nat} {r : Reach} {b0 : Nat} {spare : Nat → Bool} {held : Bool} {v : Value} {d : DataW H} {p : List MemPlace}
    (hv : Value.okWide Tryd.prog w r b0 23 v) (h : DataW.Trod enc Tryd.prog w base spare held 23 v d p) : ∃ k : Ky, v = .agg #[.int .i64 k.1, .int .i64 k.2] ∧ KI k := by
  have hv' := hv
  simp only [Value.okWide, Tryd.underlying23] at hv'
  obtain ⟨cs, rfl, hsz, _⟩ := hv'
  have c2 : Tryd.prog.cellsOf 23 = 2 := by kernel_rfl
  rw [c2] at hsz
  obtain ⟨fuel, hf⟩ := h
  have hl : cs.toList.length = 2 := by simpa using hsz
  obtain ⟨v0, v1, e⟩ := list2 hl
  have hcs : cs = #[v0, v1] := by
    apply Array.ext'
    simpa using e
  subst hcs
  obtain ⟨z0, z1, n'', _, _, k0, k1⟩ := trod_struct2 Tryd.underlying23 hf
  have k0' : DataW.trod enc Tryd.prog w base spare held n'' 3 [v0] = some z0 := k0
  have k1' : DataW.trod enc Tryd.prog w base spare held n'' 3 [v1] = some z1 := k1
  obtain ⟨kd, e0, _, w0⟩ := DataW.trod_int Tryd.underlying3 k0'
  obtain ⟨kk, e1, _, w1⟩ := DataW.trod_int Tryd.underlying3 k1'
  simp at e0 e1
  subst e0 e1
  refine ⟨(kd, kk), rfl, ?_, ?_⟩
  · simpa [Lit.wf, IntKind.min, IntKind.max, IntKind.signed, IntKind.bits, I64] using w0
  · simpa [Lit.wf, IntKind.min, IntKind.max, IntKind.signed, IntKind.bits, I64] using w1
end Go.Proofs.YtfclhehpbniapaaDoor
