/- Slices of ints, however they came about; appended to a row of the call's own. Generic over the program. -/
import Derived.Test.YthpodknhidgedaaDoorKept
import Derived.Maps.AppendAt
namespace Go.Proofs.YthpodknhidgedaaDoor
open Go.RowKit
set_option linter.unusedVariables false

/-- Ints as cells. -/
def nums (zs : List Int) : List Value := zs.map fun z => Value.int .i64 z
theorem nums_length (zs : List Int) : (nums zs).length = zs.length := by simp [nums]
theorem nums_append (a b : List Int) : nums (a ++ b) = nums a ++ nums b := by simp [nums]
theorem nums_one (zs : List Int) : ∀ v ∈ nums zs, v.oneCell' = true := by
  intro u hu
  simp only [nums, List.mem_map] at hu
  obtain ⟨z, _, rfl⟩ := hu
  rfl
theorem nums_get (zs : List Int) (j : Nat) (h : j < zs.length) : (nums zs)[j]? = some (Value.int .i64 (zs[j]?.getD 0)) := by
  simp [nums, List.getElem?_eq_getElem h]
/-- It fits an int. -/
def I64 (z : Int) : Prop := -9223372036854775808 ≤ z ∧ z ≤ 9223372036854775807

/-- The value is a slice whose elements are these ints. -/
def Nums (w : World) (v : Value) (zs : List Int) : Prop :=
  (∀ z ∈ zs, I64 z) ∧ zs.length ≤ maxLen ∧ ∃ a cap, v = .slice a zs.length cap ∧ zs.length ≤ cap ∧ cap ≤ maxLen ∧
    ((a = none ∧ cap = 0) ∨ ∃ x, a = some x ∧ (zs = [] ∨ ∃ b off, x = ⟨b, off, none⟩ ∧ b < w.heap.size ∧ ∀ j, j < zs.length → w.cell? ⟨b, off + j, none⟩ = some (.int .i64 (zs[j]?.getD 0))))
theorem Nums.nil (w : World) : Nums w (.slice none 0 0) [] := ⟨by simp, by simp, none, 0, rfl, Nat.le_refl _, by simp, .inl ⟨rfl, rfl⟩⟩
theorem Nums.shape {w : World} {v : Value} {zs : List Int} (h : Nums w v zs) : ∃ a cap, v = .slice a zs.length cap := by
  obtain ⟨_, _, a, cap, e, _⟩ := h
  exact ⟨a, cap, e⟩
/-- Its block is as it was. -/
theorem Nums.spared {w w' : World} {v : Value} {zs : List Int} (h : Nums w v zs) (hs : w.heap.size ≤ w'.heap.size) (hg : ∀ g, v.ownBlock = some g → g < w.heap.size → w'.heap[g]? = w.heap[g]?) : Nums w' v zs := by
  obtain ⟨h1, h2, a, cap, rfl, h3, h4, h5⟩ := h
  refine ⟨h1, h2, a, cap, rfl, h3, h4, ?_⟩
  rcases h5 with h5 | ⟨x, rfl, h5⟩
  · exact .inl h5
  · refine .inr ⟨x, rfl, ?_⟩
    rcases h5 with h5 | ⟨b, off, rfl, hlt, hc⟩
    · exact .inl h5
    · exact .inr ⟨b, off, rfl, Nat.lt_of_lt_of_le hlt hs, fun j hj => (World.cell?_of_block (a := ⟨b, off + j, none⟩) (hg b rfl hlt)).trans (hc j hj)⟩
theorem Nums.kept {w w' : World} {v : Value} {zs : List Int} (h : Nums w v zs) (hb : Below w.heap.size w w') : Nums w' v zs := h.spared hb.size fun g _ hg => hb.block g hg
theorem Nums.alloc {w : World} {v : Value} {zs : List Int} (h : Nums w v zs) (o : Obj) : Nums (w.alloc o) v zs := h.kept ((Below.refl _ _).alloc (Nat.le_refl _) _)
theorem Nums.lenEq {w : World} {a : Option Addr} {n cap : Nat} {zs : List Int} (h : Nums w (.slice a n cap) zs) : zs.length = n := by
  obtain ⟨_, _, a', cap', e, _⟩ := h
  simp only [Value.slice.injEq] at e
  exact e.2.1.symm
theorem Nums.capLe {w : World} {a : Option Addr} {n cap : Nat} {zs : List Int} (h : Nums w (.slice a n cap) zs) : n ≤ cap ∧ cap ≤ maxLen := by
  obtain ⟨_, _, a', cap', e, h3, h4, _⟩ := h
  simp only [Value.slice.injEq] at e
  obtain ⟨rfl, rfl, rfl⟩ := e
  exact ⟨h3, h4⟩
theorem Nums.addr {w : World} {a : Option Addr} {n cap : Nat} {zs : List Int} (h : Nums w (.slice a n cap) zs) (h0 : 0 < n) : ∃ b off, a = some ⟨b, off, none⟩ ∧ b < w.heap.size ∧ ∀ j, j < n → w.cell? ⟨b, off + j, none⟩ = some (.int .i64 (zs[j]?.getD 0)) := by
  obtain ⟨_, _, a', cap', e, h3, h4, h5⟩ := h
  simp only [Value.slice.injEq] at e
  obtain ⟨rfl, rfl, rfl⟩ := e
  rcases h5 with ⟨_, rfl⟩ | ⟨x, rfl, rfl | ⟨b, off, rfl, hlt, hc⟩⟩
  · omega
  · simp at h0
  · exact ⟨b, off, rfl, hlt, hc⟩
theorem Nums.small {w : World} {v : Value} {zs : List Int} (h : Nums w v zs) (j : Nat) : I64 (zs[j]?.getD 0) := by
  by_cases hj : j < zs.length
  · rw [List.getElem?_eq_getElem hj]; exact h.1 _ (List.getElem_mem hj)
  · rw [List.getElem?_eq_none (by omega)]; exact ⟨by decide, by decide⟩
/-- 'x[:n]'. -/
theorem Nums.front {w : World} {a : Option Addr} {l cap n : Nat} {zs : List Int} (h : Nums w (.slice a l cap) zs) (hn : n ≤ l) : Nums w (.slice a n cap) (zs.take n) := by
  have hl := h.lenEq
  have hc := h.capLe
  have hlen : (zs.take n).length = n := by rw [List.length_take]; omega
  refine ⟨fun z hz => h.1 z (List.mem_of_mem_take hz), by omega, a, cap, by rw [hlen], by omega, hc.2, ?_⟩
  by_cases h0 : 0 < l
  · obtain ⟨b, off, rfl, hlt, hcell⟩ := h.addr h0
    refine .inr ⟨_, rfl, .inr ⟨b, off, rfl, hlt, fun j hj => ?_⟩⟩
    rw [hlen] at hj
    rw [hcell j (by omega), List.getElem?_take_of_lt hj]
  · obtain ⟨_, _, a', cap', e, h3, h4, h5⟩ := h
    simp only [Value.slice.injEq] at e
    obtain ⟨rfl, rfl, rfl⟩ := e
    rcases h5 with h5 | ⟨x, rfl, h5⟩
    · exact .inl h5
    · refine .inr ⟨x, rfl, .inl ?_⟩
      exact List.eq_nil_of_length_eq_zero (by omega)
/-- 'x[n:]', of a row with an address. -/
theorem Nums.back {w : World} {b off l cap n cap' : Nat} {zs : List Int} (h : Nums w (.slice (some ⟨b, off, none⟩) l cap) zs) (hn : n < l) (hc' : l - n ≤ cap') (hc2 : cap' ≤ maxLen) : Nums w (.slice (some ⟨b, off + n, none⟩) (l - n) cap') (zs.drop n) := by
  have hl := h.lenEq
  have hlen : (zs.drop n).length = l - n := by rw [List.length_drop]; omega
  obtain ⟨b', off', e, hlt, hcell⟩ := h.addr (by omega)
  simp only [Option.some.injEq, Addr.mk.injEq, and_true] at e
  obtain ⟨rfl, rfl⟩ := e
  refine ⟨fun z hz => h.1 z (List.mem_of_mem_drop hz), by omega, _, cap', by rw [hlen], by omega, hc2, .inr ⟨_, rfl, .inr ⟨b, off + n, rfl, hlt, fun j hj => ?_⟩⟩⟩
  rw [hlen] at hj
  rw [show off + n + j = off + (n + j) by omega, hcell (n + j) (by omega), List.getElem?_drop]
/-- Where its cells lie. -/
theorem Nums.src {w : World} {v : Value} {zs : List Int} (h : Nums w v zs) : ∃ sp cap, v = .slice sp zs.length cap ∧ (0 < zs.length → ∃ ad, sp = some ad ∧ ∀ j u, (nums zs)[j]? = some u → w.cell? (ad.add j) = some u) := by
  obtain ⟨h1, h2, ad, cap, rfl, h3, h4, h5⟩ := h
  refine ⟨ad, cap, rfl, fun hp => ?_⟩
  rcases h5 with ⟨_, rfl⟩ | ⟨x, rfl, rfl | ⟨b, off, rfl, hlt, hc⟩⟩
  · omega
  · simp at hp
  · refine ⟨_, rfl, fun j u hu => ?_⟩
    have hj : j < zs.length := by have := (List.getElem?_eq_some_iff.1 hu).1; rwa [nums_length] at this
    rw [nums_get zs j hj] at hu
    have e1 : (⟨b, off, none⟩ : Addr).add j = ⟨b, off + j, none⟩ := by unfold Addr.add; split <;> simp_all
    rw [e1, hc j hj, hu]
/-- A row that the call owns. -/
theorem Nums.ofOwn {w : World} {base : Nat} {e : TypeId} {v : Value} {n : Nat} {zs : List Int} (h : w.ownsRow base e 1 v n (nums zs)) (hz : ∀ z ∈ zs, I64 z) : Nums w v zs := by
  have h1 := h.1
  simp [nums_length] at h1
  rcases h.2 with ⟨rfl, h0⟩ | ⟨g, cap, cur, rfl, hb, hg, hn, hm, hs, ht⟩
  · have : zs = [] := List.eq_nil_of_length_eq_zero (by omega)
    subst this
    exact Nums.nil w
  · refine ⟨hz, by omega, _, cap, by rw [h1], by omega, hm, .inr ⟨_, rfl, .inr ⟨g, 0, rfl, (Array.getElem?_eq_some_iff.1 hg).1, ?_⟩⟩⟩
    intro j hj
    have := h.cells (g := g) rfl j (.int .i64 (zs[j]?.getD 0)) (nums_get zs j hj)
    rw [addr_add] at this
    rw [Nat.zero_add]; exact this
/-- A row that came in. -/
theorem Nums.ofRow {w : World} {a : Option Addr} {len cap : Nat} {xs : List Int} (h : IsRow .i64 w a len cap xs) : Nums w (.slice a len cap) (xs.take len) := by
  rcases h with ⟨rfl, rfl, rfl, rfl⟩ | ⟨x, rfl, hl, hm, hz, hc, hw⟩
  · exact Nums.nil w
  · have hlen : (xs.take len).length = len := by rw [List.length_take]; omega
    have hwf : ∀ z ∈ xs, I64 z := fun z hz' => by
      have := hw z hz'
      simpa [Lit.wf, IntKind.min, IntKind.max, IntKind.signed, IntKind.bits, I64] using this
    refine ⟨fun z hz' => hwf z (List.mem_of_mem_take hz'), by omega, _, cap, by rw [hlen], by omega, hm, .inr ⟨x, rfl, ?_⟩⟩
    by_cases h0 : len = 0
    · left; subst h0; rfl
    · right
      obtain ⟨b, off, rfl, hc'⟩ := ints_at hc (by omega)
      refine ⟨b, off, rfl, cell_lt (hc' 0 (by omega)), fun j hj => ?_⟩
      rw [hlen] at hj
      rw [hc' j (by omega), List.getElem?_take_of_lt hj, List.getD_eq_getElem?_getD]
/-- A row that a literal makes. -/
theorem Nums.one {w : World} {z : Int} {e : TypeId} (hz : I64 z) : Nums (w.alloc (.cells #[.int .i64 z] e)) (.slice (some ⟨w.heap.size, 0, none⟩) 1 1) [z] := by
  refine ⟨fun y hy => by rw [List.mem_singleton.1 hy]; exact hz, by simp [maxLen], _, 1, rfl, Nat.le_refl _, by simp [maxLen], .inr ⟨_, rfl, .inr ⟨w.heap.size, 0, rfl, by simp, fun j hj => ?_⟩⟩⟩
  have hj0 : j = 0 := by simpa using hj
  subst hj0
  exact one_new 0 _ rfl

/-- 'append(own, ints...)'. -/
theorem wpList_append_nums {P : Program} (w : World) {ops : Array Oper} {rest : List Oper} {o : Oper} {a : Act} {Q : Exit → Act → World → Prop} (hgd : o.guard = none) (s x : Operand) (t : TypeId)
    (ho : o.op = .call { callee := .builtin .append, args := #[s, x], argTypes := #[t, t] })
    (base : Nat) (e : TypeId) (i : TypeInfo) (ht : P.underlying t = some (.slice e)) (hi : P.info? e = some i) (hz : i.zero = some (.int .i64 0)) (hsize : i.size = 1) (hby : i.bytes = 8)
    (v : Value) (n : Nat) (xs : List Int) (hs : a.eval s = v) (hown : w.ownsRow base e 1 v n (nums xs))
    (y : Value) (zs : List Int) (hx : a.eval x = y) (hsrc : Nums w y zs) (h63 : n + zs.length ≤ 1000000) (hbase : base ≤ w.heap.size)
    (h : ∀ v' w', w'.ownsRow base e 1 v' (n + zs.length) (nums (xs ++ zs)) → w.grownBy w' v.ownBlock → (v'.ownBlock = v.ownBlock ∨ v'.ownBlock = some w.heap.size) → wpList P ops Q rest (a.put o.dst v') w') : wpList P ops Q (o :: rest) a w := by
  have hp := hsrc.src
  obtain ⟨h1, h2, sp, cap, rfl, h3, h4, h5⟩ := hsrc
  obtain ⟨sp', cap', e', hp⟩ := hp
  simp only [Value.slice.injEq] at e'
  obtain ⟨rfl, _, rfl⟩ := e'
  by_cases h0 : zs = []
  · subst h0
    rcases h5 with ⟨rfl, rfl⟩ | ⟨ad, rfl, _⟩
    · refine wpList_append_own_none hgd s x t ho base e i 1 ht hi v n _ hs hown hx ?_
      exact h v w (by simpa using hown) (World.grownBy.refl _ _) (.inl rfl)
    · refine wpList_append_own_at w hgd s x t ho base e i (.int .i64 0) 1 8 ht hi hz hsize hby rfl (by decide) v n _ hs hown ad 0 cap (nums []) hx rfl ?_ ?_ (by unfold maxLen; omega) (by simp at h63; omega) hbase ?_
      · intro j u hu
        simp [nums] at hu
      · intro u hu
        exact nums_one _ u hu
      · intro v' w' hw hg _ hat
        rw [← nums_append] at hw
        exact h v' w' hw hg hat
  · have hl : 0 < zs.length := by
      cases zs with
      | nil => exact absurd rfl h0
      | cons z r => simp
    obtain ⟨ad, rfl, hc⟩ := hp hl
    refine wpList_append_own_at w hgd s x t ho base e i (.int .i64 0) 1 8 ht hi hz hsize hby rfl (by decide) v n _ hs hown ad zs.length cap (nums zs) hx (by rw [nums_length, Nat.mul_one]) hc (nums_one zs) (by unfold maxLen; omega) (by omega) hbase ?_
    intro v' w' hw hg _ hat
    rw [← nums_append] at hw
    exact h v' w' hw hg hat
theorem grewAny {w w' : World} {B n : Nat} {e : TypeId} {v : Value} {xs : List Value} {a : World} (h : Below B a w) (hown : w.ownsRow B e 1 v n xs) (hg : w.grownBy w' v.ownBlock) (hB : B ≤ w.heap.size) : Below B a w' :=
  h.grown hg hB fun j hj => (hown.lt j hj).1
theorem own_sh {w : World} {base n : Nat} {e : TypeId} {v : Value} {xs : List Value} (h : w.ownsRow base e 1 v n xs) : ∃ a c, v = .slice a n c := by
  rcases h.2 with ⟨rfl, rfl⟩ | ⟨g, cap, cur, rfl, _⟩
  · exact ⟨none, 0, rfl⟩
  · exact ⟨_, _, rfl⟩
end Go.Proofs.YthpodknhidgedaaDoor
