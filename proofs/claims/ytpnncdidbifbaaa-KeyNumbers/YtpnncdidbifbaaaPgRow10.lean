/- Slices of rows of pages, however they came about; a row appended, a row made longer; the key behind a row. -/
import Derived.Test.YtpnncdidbifbaaaSort10
namespace Go.Proofs.Ytpnncdidbifbaaa
open Go.RowKit Go.Maps
set_option linter.unusedVariables false

def rcells (rs : List Rw) : List Value := rs.flatMap fun r => [.int .i64 r.h, .int .i64 r.p, .int .i64 (r.n : Nat)]
theorem rcells_length (rs : List Rw) : (rcells rs).length = rs.length * 3 := by
  induction rs with
  | nil => rfl
  | cons k r ih => simp only [rcells, List.flatMap_cons, List.length_append, List.length_cons, List.length_nil] at *; omega
theorem rcells_append (a b : List Rw) : rcells (a ++ b) = rcells a ++ rcells b := by simp [rcells]
theorem rcells_at : ∀ (rs : List Rw) (j : Nat) (r : Rw), rs[j]? = some r → (rcells rs)[j * 3]? = some (.int .i64 r.h) ∧ (rcells rs)[j * 3 + 1]? = some (.int .i64 r.p) ∧ (rcells rs)[j * 3 + 2]? = some (.int .i64 (r.n : Nat))
  | [], j, r, h => by simp at h
  | x :: t, 0, r, h => by
    simp at h; subst h
    exact ⟨rfl, rfl, rfl⟩
  | x :: t, j + 1, r, h => by
    have ih := rcells_at t j r (by simpa using h)
    have e : rcells (x :: t) = .int .i64 x.h :: .int .i64 x.p :: .int .i64 (x.n : Nat) :: rcells t := rfl
    rw [e, show (j + 1) * 3 = j * 3 + 1 + 1 + 1 by omega]
    exact ⟨by simpa using ih.1, by simpa using ih.2.1, by simpa using ih.2.2⟩
/-- The value is a slice whose elements are these rows. -/
def Rws (w : World) (v : Value) (rs : List Rw) : Prop :=
  rs.length ≤ maxLen ∧ ∃ a cap, v = .slice a rs.length cap ∧ (rs = [] ∨ ∃ b off, a = some ⟨b, off, none⟩ ∧ b < w.heap.size ∧ ∀ j r, rs[j]? = some r → w.cell? ⟨b, off + j * 3, none⟩ = some (.int .i64 r.h) ∧ w.cell? ⟨b, off + j * 3 + 1, none⟩ = some (.int .i64 r.p) ∧ w.cell? ⟨b, off + j * 3 + 2, none⟩ = some (.int .i64 (r.n : Nat)))
theorem Rws.shape {w : World} {v : Value} {rs : List Rw} (h : Rws w v rs) : ∃ a cap, v = .slice a rs.length cap := by
  obtain ⟨_, a, cap, e, _⟩ := h
  exact ⟨a, cap, e⟩
theorem Rws.addr {w : World} {a : Option Addr} {n cap : Nat} {rs : List Rw} (h : Rws w (.slice a n cap) rs) (h0 : 0 < n) : ∃ b off, a = some ⟨b, off, none⟩ ∧ b < w.heap.size ∧ ∀ j r, rs[j]? = some r → w.cell? ⟨b, off + j * 3, none⟩ = some (.int .i64 r.h) ∧ w.cell? ⟨b, off + j * 3 + 1, none⟩ = some (.int .i64 r.p) ∧ w.cell? ⟨b, off + j * 3 + 2, none⟩ = some (.int .i64 (r.n : Nat)) := by
  obtain ⟨_, a', cap', e, h2⟩ := h
  simp only [Value.slice.injEq] at e
  obtain ⟨rfl, rfl, rfl⟩ := e
  rcases h2 with rfl | h2
  · simp at h0
  · exact h2
theorem Rws.kept {w w' : World} {v : Value} {rs : List Rw} (h : Rws w v rs) (hb : Below w.heap.size w w') : Rws w' v rs := by
  obtain ⟨h1, a, cap, rfl, h2⟩ := h
  refine ⟨h1, a, cap, rfl, ?_⟩
  rcases h2 with h2 | ⟨b, off, rfl, hlt, hc⟩
  · exact .inl h2
  · exact .inr ⟨b, off, rfl, Nat.lt_of_lt_of_le hlt hb.size, fun j r hj => ⟨(hb.cell (p := ⟨b, off + j * 3, none⟩) hlt).trans (hc j r hj).1, (hb.cell (p := ⟨b, off + j * 3 + 1, none⟩) hlt).trans (hc j r hj).2.1, (hb.cell (p := ⟨b, off + j * 3 + 2, none⟩) hlt).trans (hc j r hj).2.2⟩⟩
theorem Rws.ofOwn {w : World} {base : Nat} {e : TypeId} {v : Value} {n : Nat} {rs : List Rw} (h : w.ownsRow base e 3 v n (rcells rs)) : Rws w v rs := by
  have h1 := h.1
  rw [rcells_length] at h1
  have h1' : rs.length = n := by omega
  rcases h.2 with ⟨rfl, h0⟩ | ⟨g, cap, cur, rfl, hb, hg, hn, hm, hs, ht⟩
  · have : rs = [] := List.eq_nil_of_length_eq_zero (by omega)
    subst this
    exact ⟨by simp, none, 0, rfl, .inl rfl⟩
  · refine ⟨by omega, _, cap, by rw [h1'], .inr ⟨g, 0, rfl, (Array.getElem?_eq_some_iff.1 hg).1, ?_⟩⟩
    intro j r hj
    have a1 := h.cells (g := g) rfl _ _ (rcells_at rs j r hj).1
    have a2 := h.cells (g := g) rfl _ _ (rcells_at rs j r hj).2.1
    have a3 := h.cells (g := g) rfl _ _ (rcells_at rs j r hj).2.2
    rw [addr_add] at a1 a2 a3
    rw [Nat.zero_add]
    exact ⟨a1, a2, a3⟩
theorem Try.infoR10 : (Try.prog.info? 43).map (fun i => (i.zero, i.size, i.bytes)) = some (some (.agg #[.int .i64 0, .int .i64 0, .int .i64 0]), 3, 24) := by kernel_rfl
theorem info_r : ∃ i, Try.prog.info? 43 = some i ∧ i.zero = some (.agg #[.int .i64 0, .int .i64 0, .int .i64 0]) ∧ i.size = 3 ∧ i.bytes = 24 := by
  have h := Try.infoR10
  cases hi : Try.prog.info? 43 with
  | none => rw [hi] at h; simp at h
  | some i =>
    rw [hi] at h
    simp only [Option.map_some, Option.some.injEq, Prod.mk.injEq] at h
    exact ⟨i, rfl, h.1, h.2.1, h.2.2⟩
/-- 'append(own, one)'. -/
theorem wpList_append_run {P : Program} (w0 : World) {ops : Array Oper} {rest : List Oper} {o : Oper} {a : Act} {Q : Exit → Act → World → Prop} (hgd : o.guard = none) (s x : Operand) (t : TypeId)
    (ho : o.op = .call { callee := .builtin .append, args := #[s, x], argTypes := #[t, t] })
    (base : Nat) (e e2 : TypeId) (i : TypeInfo) (ht : P.underlying t = some (.slice e)) (hi : P.info? e = some i) (hz : i.zero = some (.agg #[.int .i64 0, .int .i64 0, .int .i64 0])) (hsize : i.size = 3) (hby : i.bytes = 24)
    (v : Value) (n : Nat) (xs : List Rw) (hs : a.eval s = v) (hown : w0.ownsRow base e 3 v n (rcells xs))
    (rh rp rz : Int) (rn : Nat) (hrz : rz = (rn : Nat)) (hx : a.eval x = .slice (some ⟨w0.heap.size, 0, none⟩) 1 1) (h63 : n + 1 ≤ 1000000) (hbase : base ≤ w0.heap.size)
    (h : ∀ v' w', w'.ownsRow base e 3 v' (n + 1) (rcells (xs ++ [⟨rh, rp, rn⟩])) → (w0.alloc (.cells #[.int .i64 rh, .int .i64 rp, .int .i64 rz] e2)).grownBy w' v.ownBlock → wpList P ops Q rest (a.put o.dst v') w') : wpList P ops Q (o :: rest) a (w0.alloc (.cells #[.int .i64 rh, .int .i64 rp, .int .i64 rz] e2)) := by
  subst hrz
  refine wpList_append_own_at _ hgd s x t ho base e i _ 3 24 ht hi hz hsize hby rfl (by decide) v n _ hs (hown.alloc _) ⟨w0.heap.size, 0, none⟩ 1 1 (rcells [⟨rh, rp, rn⟩]) hx rfl ?_ ?_ (by unfold maxLen; omega) (by omega) (by simp; omega) ?_
  · intro j u hj
    have e1 : (⟨w0.heap.size, 0, none⟩ : Addr).add j = ⟨w0.heap.size, j, none⟩ := by unfold Addr.add; split <;> simp_all
    rw [e1]
    match j, hj with
    | 0, hj => simp [rcells] at hj; subst hj; simp
    | 1, hj => simp [rcells] at hj; subst hj; simp
    | 2, hj => simp [rcells] at hj; subst hj; simp
    | j + 3, hj => simp [rcells] at hj
  · intro u hu
    simp [rcells] at hu
    rcases hu with rfl | rfl | rfl <;> rfl
  · intro v' w' hw hg _ _
    rw [← rcells_append] at hw
    exact h v' w' hw hg
/-- The last row made longer. -/
theorem rows_longer {w : World} {base g n cap q : Nat} {e : TypeId} {l : List Rw} {r : Rw} (h : w.ownsRow base e 3 (.slice (some ⟨g, 0, none⟩) n cap) n (rcells (l ++ [r]))) (hq : l.length = q) (m : Nat) :
    (w.setCell ⟨g, q * 3 + 2, none⟩ (.int .i64 (m : Nat))).ownsRow base e 3 (.slice (some ⟨g, 0, none⟩) n cap) n (rcells (l ++ [⟨r.h, r.p, m⟩])) := by
  have h1 := h.1
  rw [rcells_length] at h1
  rcases h.2 with ⟨e', _⟩ | ⟨g', cap', cur, e', hb, hg, hn, hm, hs, ht⟩
  · cases e'
  · simp only [Value.slice.injEq, Option.some.injEq, Addr.mk.injEq, and_true, true_and] at e'
    obtain ⟨rfl, rfl⟩ := e'
    refine ⟨by rw [rcells_length, List.length_append] at *; simpa using h1, .inr ⟨g, cap, cur.setIfInBounds (q * 3 + 2) (.int .i64 (m : Nat)), rfl, hb, heap_set_row hg _ _, hn, hm, by simpa using hs, ?_⟩⟩
    rw [Array.toList_setIfInBounds, List.take_set, ht, rcells_append, rcells_append]
    have hl : (rcells l).length = q * 3 := by rw [rcells_length, hq]
    rw [List.set_append_right _ _ (by rw [hl]; omega), hl, show q * 3 + 2 - q * 3 = 2 by omega]
    rfl
theorem rows_cells {w : World} {base g n cap q : Nat} {e : TypeId} {l : List Rw} {r : Rw} (h : w.ownsRow base e 3 (.slice (some ⟨g, 0, none⟩) n cap) n (rcells (l ++ [r]))) (hq : l.length = q) :
    w.cell? ⟨g, q * 3, none⟩ = some (.int .i64 r.h) ∧ w.cell? ⟨g, q * 3 + 1, none⟩ = some (.int .i64 r.p) ∧ w.cell? ⟨g, q * 3 + 2, none⟩ = some (.int .i64 (r.n : Nat)) ∧ w.frozen? ⟨g, q * 3 + 2, none⟩ = false := by
  have hk : (l ++ [r])[q]? = some r := by rw [← hq]; simp
  have a1 := h.cells (g := g) rfl _ _ (rcells_at _ q r hk).1
  have a2 := h.cells (g := g) rfl _ _ (rcells_at _ q r hk).2.1
  have a3 := h.cells (g := g) rfl _ _ (rcells_at _ q r hk).2.2
  rw [addr_add] at a1 a2 a3
  refine ⟨a1, a2, a3, ?_⟩
  rcases h.2 with ⟨e', _⟩ | ⟨g', cap', cur, e', hb, hg, hn, hm, hs, ht⟩
  · cases e'
  · simp only [Value.slice.injEq, Option.some.injEq, Addr.mk.injEq, and_true, true_and] at e'
    obtain ⟨rfl, rfl⟩ := e'
    simp [World.frozen?, hg]
theorem new_cells (V : World) (u v : Value) (t : TypeId) (n : Nat) (h : n = V.heap.size) : (V.alloc (.cells #[u, v] t)).cell? ⟨n, 0, none⟩ = some u ∧ (V.alloc (.cells #[u, v] t)).cell? ⟨n, 0 + 1, none⟩ = some v := by
  subst h
  exact ⟨by simp, by simp⟩
theorem behind_any (h p n x : Int) (w : World) (hx : wrap64 (p + n) = x) :
    Calls Try.prog 25 #[.agg #[.int .i64 h, .int .i64 p, .int .i64 n]] w fun e w' => e = .returned (.agg #[.int .i64 h, .int .i64 x]) ∧ Below w.heap.size w w' := by
  subst hx
  have hs : (w.alloc (.cells #[.int .i64 h, .int .i64 p, .int .i64 n] 43)).heap.size = w.heap.size + 1 := by simp
  go_enter Try.func25, Try.ntmps25
  go_wp2
  refine bodyPost_ret (v := .agg #[.int .i64 _, .int .i64 _]) (results_cell1 rfl rfl (load_kv (new_cells _ _ _ _ _ hs.symm).1 (new_cells _ _ _ _ _ hs.symm).2)) rfl ⟨rfl, ?_⟩
  exact ((Below.refl _ _).alloc (Nat.le_refl _) _).alloc (by simp) _
end Go.Proofs.Ytpnncdidbifbaaa
