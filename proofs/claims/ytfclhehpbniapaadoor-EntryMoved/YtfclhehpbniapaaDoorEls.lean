/- Slices of structs of K cells, however they came about; appended to a row of the call's own; opened where they came in. Generic: the elements are 'enc x'. -/
import Derived.Test.YtfclhehpbniapaaDoorResCell
import Derived.Test.YtfclhehpbniapaaDoorOpens
import Derived.Maps.AppendAt
import Derived.Laws.AppendOwnNone
import Derived.Deep.Strs
import Derived.ChangeArms
import Derived.DataReads
import Derived.OrdersHeld
namespace Go.Proofs.YtfclhehpbniapaaDoor
open Go.RowKit Go.ChangeShapes Go.WideShapes Go.Deep
set_option linter.unusedVariables false

variable {α : Type} {enc : α → List Value} {K : Nat}
/-- Each element has K cells, each of one cell. -/
structure EncOk (enc : α → List Value) (K : Nat) : Prop where
  len : ∀ x, (enc x).length = K
  one : ∀ x, ∀ v ∈ enc x, v.oneCell' = true
  pos : 0 < K
def ecells (enc : α → List Value) (xs : List α) : List Value := xs.flatMap enc
theorem ecells_append (a b : List α) : ecells enc (a ++ b) = ecells enc a ++ ecells enc b := by simp [ecells]
theorem ecells_length (hE : EncOk enc K) (xs : List α) : (ecells enc xs).length = xs.length * K := by
  induction xs with
  | nil => simp [ecells]
  | cons k r ih =>
    have e : ecells enc (k :: r) = enc k ++ ecells enc r := by simp [ecells]
    rw [e, List.length_append, hE.len, ih, List.length_cons, Nat.add_mul, Nat.one_mul, Nat.add_comm]
theorem ecells_one (hE : EncOk enc K) (xs : List α) : ∀ v ∈ ecells enc xs, v.oneCell' = true := by
  intro u hu
  simp only [ecells, List.mem_flatMap] at hu
  obtain ⟨k, _, h⟩ := hu
  exact hE.one k u h
theorem ecells_at (hE : EncOk enc K) : ∀ (xs : List α) (j : Nat) (x : α), xs[j]? = some x → ∀ i u, (enc x)[i]? = some u → (ecells enc xs)[j * K + i]? = some u
  | [], j, x, h => by simp at h
  | y :: r, 0, x, h => fun i u hu => by
    simp at h; subst h
    have hi := (List.getElem?_eq_some_iff.1 hu).1
    have e : ecells enc (y :: r) = enc y ++ ecells enc r := by simp [ecells]
    rw [e, Nat.zero_mul, Nat.zero_add, List.getElem?_append_left hi]
    exact hu
  | y :: r, j + 1, x, h => fun i u hu => by
    have ih := ecells_at hE r j x (by simpa using h) i u hu
    have e : ecells enc (y :: r) = enc y ++ ecells enc r := by simp [ecells]
    rw [e, List.getElem?_append_right (by rw [hE.len, Nat.add_mul]; omega), hE.len, show (j + 1) * K + i - K = j * K + i by rw [Nat.add_mul, Nat.one_mul]; omega]
    exact ih
theorem ecells_inv (hE : EncOk enc K) : ∀ (xs : List α) (i : Nat) (u : Value), (ecells enc xs)[i]? = some u → ∃ j x k, xs[j]? = some x ∧ (enc x)[k]? = some u ∧ i = j * K + k
  | [], i, u, h => by simp [ecells] at h
  | y :: r, i, u, h => by
    have e : ecells enc (y :: r) = enc y ++ ecells enc r := by simp [ecells]
    rw [e] at h
    by_cases hi : i < K
    · rw [List.getElem?_append_left (by rw [hE.len]; exact hi)] at h
      exact ⟨0, y, i, rfl, h, by omega⟩
    · rw [List.getElem?_append_right (by rw [hE.len]; omega), hE.len] at h
      obtain ⟨j, x, k, h1, h2, h3⟩ := ecells_inv hE r (i - K) u h
      exact ⟨j + 1, x, k, by simpa using h1, h2, by rw [Nat.add_mul, Nat.one_mul]; omega⟩

/-- The value is a slice whose elements are these. -/
def Els (enc : α → List Value) (K : Nat) (w : World) (v : Value) (xs : List α) : Prop :=
  xs.length ≤ maxLen ∧ ∃ a cap, v = .slice a xs.length cap ∧ xs.length ≤ cap ∧ cap ≤ maxLen ∧
    ((a = none ∧ cap = 0) ∨ ∃ x, a = some x ∧ (xs = [] ∨ ∃ b off, x = ⟨b, off, none⟩ ∧ b < w.heap.size ∧ ∀ j y, xs[j]? = some y → ∀ i u, (enc y)[i]? = some u → w.cell? ⟨b, off + j * K + i, none⟩ = some u))
theorem Els.nil (w : World) : Els enc K w (.slice none 0 0) [] := ⟨by simp, none, 0, rfl, Nat.le_refl _, by simp, .inl ⟨rfl, rfl⟩⟩
theorem Els.shape {w : World} {v : Value} {xs : List α} (h : Els enc K w v xs) : ∃ a cap, v = .slice a xs.length cap := by
  obtain ⟨_, a, cap, e, _⟩ := h
  exact ⟨a, cap, e⟩
theorem Els.spared {w w' : World} {v : Value} {xs : List α} (h : Els enc K w v xs) (hs : w.heap.size ≤ w'.heap.size) (hg : ∀ g, v.ownBlock = some g → g < w.heap.size → w'.heap[g]? = w.heap[g]?) : Els enc K w' v xs := by
  obtain ⟨h2, a, cap, rfl, h3, h4, h5⟩ := h
  refine ⟨h2, a, cap, rfl, h3, h4, ?_⟩
  rcases h5 with h5 | ⟨x, rfl, h5⟩
  · exact .inl h5
  · refine .inr ⟨x, rfl, ?_⟩
    rcases h5 with h5 | ⟨b, off, rfl, hlt, hc⟩
    · exact .inl h5
    · exact .inr ⟨b, off, rfl, Nat.lt_of_lt_of_le hlt hs, fun j y hj i u hu => (World.cell?_of_block (a := ⟨b, off + j * K + i, none⟩) (hg b rfl hlt)).trans (hc j y hj i u hu)⟩
theorem Els.kept {w w' : World} {v : Value} {xs : List α} (h : Els enc K w v xs) (hb : Below w.heap.size w w') : Els enc K w' v xs := h.spared hb.size fun g _ hg => hb.block g hg
theorem Els.alloc {w : World} {v : Value} {xs : List α} (h : Els enc K w v xs) (o : Obj) : Els enc K (w.alloc o) v xs := h.kept ((Below.refl _ _).alloc (Nat.le_refl _) _)
theorem Els.grown {w w' : World} {v : Value} {xs : List α} {row : Option Nat} (h : Els enc K w v xs) (hg : w.grownBy w' row) (hne : v.ownBlock ≠ row) : Els enc K w' v xs :=
  h.spared hg.size fun g hv hlt => hg.block g hlt (fun e => hne (hv.trans e))
theorem Els.lenEq {w : World} {a : Option Addr} {n cap : Nat} {xs : List α} (h : Els enc K w (.slice a n cap) xs) : xs.length = n := by
  obtain ⟨_, a', cap', e, _⟩ := h
  simp only [Value.slice.injEq] at e
  exact e.2.1.symm
theorem Els.capLe {w : World} {a : Option Addr} {n cap : Nat} {xs : List α} (h : Els enc K w (.slice a n cap) xs) : n ≤ cap ∧ cap ≤ maxLen := by
  obtain ⟨_, a', cap', e, h3, h4, _⟩ := h
  simp only [Value.slice.injEq] at e
  obtain ⟨rfl, rfl, rfl⟩ := e
  exact ⟨h3, h4⟩
theorem Els.addr {w : World} {a : Option Addr} {n cap : Nat} {xs : List α} (h : Els enc K w (.slice a n cap) xs) (h0 : 0 < n) : ∃ b off, a = some ⟨b, off, none⟩ ∧ b < w.heap.size ∧ ∀ j y, xs[j]? = some y → ∀ i u, (enc y)[i]? = some u → w.cell? ⟨b, off + j * K + i, none⟩ = some u := by
  obtain ⟨_, a', cap', e, h3, h4, h5⟩ := h
  simp only [Value.slice.injEq] at e
  obtain ⟨rfl, rfl, rfl⟩ := e
  rcases h5 with ⟨_, rfl⟩ | ⟨x, rfl, rfl | ⟨b, off, rfl, hlt, hc⟩⟩
  · omega
  · simp at h0
  · exact ⟨b, off, rfl, hlt, hc⟩
/-- 'x[:n]'. -/
theorem Els.front {w : World} {a : Option Addr} {l cap n : Nat} {xs : List α} (h : Els enc K w (.slice a l cap) xs) (hn : n ≤ l) : Els enc K w (.slice a n cap) (xs.take n) := by
  have hl := h.lenEq
  have hc := h.capLe
  have hlen : (xs.take n).length = n := by rw [List.length_take]; omega
  refine ⟨by omega, a, cap, by rw [hlen], by omega, hc.2, ?_⟩
  by_cases h0 : 0 < l
  · obtain ⟨b, off, rfl, hlt, hcell⟩ := h.addr h0
    refine .inr ⟨_, rfl, .inr ⟨b, off, rfl, hlt, fun j k hj => ?_⟩⟩
    have hj' : j < n := by have := (List.getElem?_eq_some_iff.1 hj).1; omega
    rw [List.getElem?_take_of_lt hj'] at hj
    exact hcell j k hj
  · obtain ⟨_, a', cap', e, h3, h4, h5⟩ := h
    simp only [Value.slice.injEq] at e
    obtain ⟨rfl, rfl, rfl⟩ := e
    rcases h5 with h5 | ⟨x, rfl, h5⟩
    · exact .inl h5
    · refine .inr ⟨x, rfl, .inl ?_⟩
      exact List.eq_nil_of_length_eq_zero (by omega)
/-- Where its cells lie. -/
theorem Els.src (hE : EncOk enc K) {w : World} {v : Value} {xs : List α} (h : Els enc K w v xs) : ∃ sp cap, v = .slice sp xs.length cap ∧ (0 < xs.length → ∃ ad, sp = some ad ∧ ∀ j u, (ecells enc xs)[j]? = some u → w.cell? (ad.add j) = some u) := by
  obtain ⟨h2, ad, cap, rfl, h3, h4, h5⟩ := h
  refine ⟨ad, cap, rfl, fun hp => ?_⟩
  rcases h5 with ⟨_, rfl⟩ | ⟨x, rfl, rfl | ⟨b, off, rfl, hlt, hc⟩⟩
  · omega
  · simp at hp
  · refine ⟨_, rfl, fun i u hu => ?_⟩
    obtain ⟨j, y, k, hj, hk, rfl⟩ := ecells_inv hE xs i u hu
    have e1 : (⟨b, off, none⟩ : Addr).add (j * K + k) = ⟨b, off + (j * K + k), none⟩ := by unfold Addr.add; split <;> simp_all
    rw [e1, ← Nat.add_assoc]
    exact hc j y hj k u hk
theorem els_add (g i : Nat) : (⟨g, 0, none⟩ : Addr).add i = ⟨g, i, none⟩ := by unfold Addr.add; split <;> simp_all
/-- A row that the call owns. -/
theorem Els.ofOwn (hE : EncOk enc K) {w : World} {base : Nat} {e : TypeId} {v : Value} {n : Nat} {xs : List α} (h : w.ownsRow base e K v n (ecells enc xs)) : Els enc K w v xs := by
  have h1 := h.1
  rw [ecells_length hE] at h1
  have h1' : xs.length = n := Nat.eq_of_mul_eq_mul_right hE.pos h1
  rcases h.2 with ⟨rfl, h0⟩ | ⟨g, cap, cur, rfl, hb, hg, hn, hm, hs, ht⟩
  · have : xs = [] := List.eq_nil_of_length_eq_zero (by omega)
    subst this
    exact Els.nil w
  · refine ⟨by omega, _, cap, by rw [h1'], by omega, hm, .inr ⟨_, rfl, .inr ⟨g, 0, rfl, (Array.getElem?_eq_some_iff.1 hg).1, ?_⟩⟩⟩
    intro j y hj i u hu
    have a1 := h.cells (g := g) rfl _ _ (ecells_at hE xs j y hj i u hu)
    rw [els_add] at a1
    rw [Nat.zero_add]
    exact a1
/-- A row of one that a literal makes. -/
theorem Els.one (hE : EncOk enc K) {w : World} {x : α} {e : TypeId} : Els enc K (w.alloc (.cells (enc x).toArray e)) (.slice (some ⟨w.heap.size, 0, none⟩) 1 1) [x] := by
  refine ⟨by simp [maxLen], _, 1, rfl, Nat.le_refl _, by simp [maxLen], .inr ⟨_, rfl, .inr ⟨w.heap.size, 0, rfl, by simp, fun j y hj i u hu => ?_⟩⟩⟩
  have hj0 : j = 0 := by have := (List.getElem?_eq_some_iff.1 hj).1; simp at this; exact this
  subst hj0
  simp at hj
  subst hj
  rw [Nat.zero_mul, Nat.zero_add]
  have hh := heap_alloc_new w (.cells (enc x).toArray e)
  simp only [World.cell?, hh]
  simpa using hu

/-- 'append(own, ...)'. -/
theorem wpList_append_els (hE : EncOk enc K) {P : Program} (w : World) {ops : Array Oper} {rest : List Oper} {o : Oper} {a : Act} {Q : Exit → Act → World → Prop} (hgd : o.guard = none) (s x : Operand) (t : TypeId)
    (ho : o.op = .call { callee := .builtin .append, args := #[s, x], argTypes := #[t, t] })
    (base : Nat) (e : TypeId) (i : TypeInfo) (z : Value) (by8 : Nat) (ht : P.underlying t = some (.slice e)) (hi : P.info? e = some i) (hz : i.zero = some z) (hzs : z.cells.size = K) (hsize : i.size = K) (hby : i.bytes = by8) (hby9 : by8 ≤ 1000000)
    (v : Value) (n : Nat) (xs : List α) (hs : a.eval s = v) (hown : w.ownsRow base e K v n (ecells enc xs))
    (y : Value) (ks : List α) (hx : a.eval x = y) (hsrc : Els enc K w y ks) (h63 : n + ks.length ≤ 1000000) (hbase : base ≤ w.heap.size)
    (h : ∀ v' w', w'.ownsRow base e K v' (n + ks.length) (ecells enc (xs ++ ks)) → w.grownBy w' v.ownBlock → (v'.ownBlock = v.ownBlock ∨ v'.ownBlock = some w.heap.size) → wpList P ops Q rest (a.put o.dst v') w') : wpList P ops Q (o :: rest) a w := by
  have hp := hsrc.src hE
  obtain ⟨h2, sp, cap, rfl, h3, h4, h5⟩ := hsrc
  obtain ⟨sp', cap', e', hp⟩ := hp
  simp only [Value.slice.injEq] at e'
  obtain ⟨rfl, _, rfl⟩ := e'
  have hbig : (n + ks.length) * by8 ≤ 140737488355328 := Nat.le_trans (Nat.mul_le_mul h63 hby9) (by decide)
  by_cases h0 : ks = []
  · subst h0
    rcases h5 with ⟨rfl, rfl⟩ | ⟨ad, rfl, _⟩
    · refine wpList_append_own_none hgd s x t ho base e i K ht hi v n _ hs hown hx ?_
      exact h v w (by simpa using hown) (World.grownBy.refl _ _) (.inl rfl)
    · refine wpList_append_own_at w hgd s x t ho base e i z K by8 ht hi hz hsize hby hzs hE.pos v n _ hs hown ad 0 cap (ecells enc []) hx (by simp [ecells]) ?_ ?_ (by unfold maxLen; omega) (by simpa using hbig) hbase ?_
      · intro j u hu
        simp [ecells] at hu
      · intro u hu
        simp [ecells] at hu
      · intro v' w' hw hg _ hat
        rw [← ecells_append] at hw
        exact h v' w' hw hg hat
  · have hl : 0 < ks.length := by
      cases ks with
      | nil => exact absurd rfl h0
      | cons z r => simp
    obtain ⟨ad, rfl, hc⟩ := hp hl
    refine wpList_append_own_at w hgd s x t ho base e i z K by8 ht hi hz hsize hby hzs hE.pos v n _ hs hown ad ks.length cap (ecells enc ks) hx (ecells_length hE _) hc (ecells_one hE ks) (by unfold maxLen; omega) hbig hbase ?_
    intro v' w' hw hg _ hat
    rw [← ecells_append] at hw
    exact h v' w' hw hg hat

/-- The same as a step of a region that draws. -/
theorem step_append_els (hE : EncOk enc K) {P : Program} {w : World} {ops : Array Oper} {o : Oper} {a : Act} {K' : Act → World → Prop} {Q : Exit → Act → World → Prop} {E : Prop} (hgd : o.guard = none) (s x : Operand) (t : TypeId)
    (ho : o.op = .call { callee := .builtin .append, args := #[s, x], argTypes := #[t, t] })
    (base : Nat) (e : TypeId) (i : TypeInfo) (z : Value) (by8 : Nat) (ht : P.underlying t = some (.slice e)) (hi : P.info? e = some i) (hz : i.zero = some z) (hzs : z.cells.size = K) (hsize : i.size = K) (hby : i.bytes = by8) (hby9 : by8 ≤ 1000000)
    (v : Value) (n : Nat) (xs : List α) (hs : a.eval s = v) (hown : w.ownsRow base e K v n (ecells enc xs))
    (y : Value) (ks : List α) (hx : a.eval x = y) (hsrc : Els enc K w y ks) (h63 : n + ks.length ≤ 1000000) (hbase : base ≤ w.heap.size)
    (h : ∀ v' w', w'.ownsRow base e K v' (n + ks.length) (ecells enc (xs ++ ks)) → w.grownBy w' v.ownBlock → K' (a.put o.dst v') w') :
    if Region.wanted o (yielded ops a.tmps) = true then Oper.wp P o a w K' Q else E := by
  have hw : Region.wanted o (yielded ops a.tmps) = true := by simp [Region.wanted, hgd]
  rw [if_pos hw]
  have hp := hsrc.src hE
  obtain ⟨h2, sp, cap, rfl, h3, h4, h5⟩ := hsrc
  obtain ⟨sp', cap', e', hp⟩ := hp
  simp only [Value.slice.injEq] at e'
  obtain ⟨rfl, _, rfl⟩ := e'
  have hbig : (n + ks.length) * by8 ≤ 140737488355328 := Nat.le_trans (Nat.mul_le_mul h63 hby9) (by decide)
  have key : ∃ v' w', (Builtin.append_ #[t, t] o.type #[v, .slice sp ks.length cap]).run P w = .ok v' w' ∧ w'.ownsRow base e K v' (n + ks.length) (ecells enc (xs ++ ks)) ∧ w.grownBy w' v.ownBlock := by
    by_cases h0 : ks = []
    · subst h0
      rcases h5 with ⟨rfl, rfl⟩ | ⟨ad, rfl, _⟩
      · exact ⟨v, w, run_append_owned_none (P := P) (w := w) base t o.type e i K ht hi v n _ hown, by simpa using hown, World.grownBy.refl _ _⟩
      · obtain ⟨v', w', hr, k1, k2, _, _⟩ := run_append_own_at (P := P) w base t o.type e i z K by8 ht hi hz hsize hby hzs hE.pos v n _ hown ad 0 cap (ecells enc []) (by simp [ecells]) (fun j u hu => by simp [ecells] at hu) (fun u hu => by simp [ecells] at hu) (by unfold maxLen; omega) (by simpa using hbig) hbase
        rw [← ecells_append] at k1
        exact ⟨v', w', hr, k1, k2⟩
    · have hl : 0 < ks.length := by
        cases ks with
        | nil => exact absurd rfl h0
        | cons z r => simp
      obtain ⟨ad, rfl, hc⟩ := hp hl
      obtain ⟨v', w', hr, k1, k2, _, _⟩ := run_append_own_at (P := P) w base t o.type e i z K by8 ht hi hz hsize hby hzs hE.pos v n _ hown ad ks.length cap (ecells enc ks) (ecells_length hE _) hc (ecells_one hE ks) (by unfold maxLen; omega) hbig hbase
      rw [← ecells_append] at k1
      exact ⟨v', w', hr, k1, k2⟩
  obtain ⟨v', w', hr, k1, k2⟩ := key
  unfold Oper.wp
  simp [execOp, ho, resolve, invoke, builtin, hs, hx, hr, Result.andThen]
  exact h v' w' k1 k2

/-! ### Elements that came in -/
theorem els_plain (b off j : Nat) : (⟨b, off, none⟩ : Addr).add j = ⟨b, off + j, none⟩ := by unfold Addr.add; split <;> simp_all
theorem open_els {H : Type} {tok : TypeId × Value → H} {P : Program} {w : World} {base : Nat} {held : Bool} {a : Option Addr} {len cap : Nat} {d : DataW H} {p : List MemPlace} {t e : TypeId} [Inhabited α] (hE : EncOk enc K) (Fits : α → Prop)
    (ht : P.underlying t = some (.slice e)) (hce : P.cellsOf e = K)
    (hel : ∀ (n : Nat) (cs : List Value) (x : DataW H × List MemPlace), cs.length = K → DataW.trod tok P w base (fun _ => true) held n e cs = some x → ∃ y, cs = enc y ∧ Fits y)
    (h : DataW.Trod tok P w base (fun _ => true) held t (.slice a len cap) d p) : ∃ xs, Els enc K w (.slice a len cap) xs ∧ ∀ y ∈ xs, Fits y := by
  obtain ⟨fuel, hf⟩ := h
  rcases open_slice ht hf with ⟨hcs, _⟩ | ⟨x, l, c, m, n, D, Pl, hcs, _, hl, hm, hmm, _, hall⟩
  · simp [Value.cells] at hcs
    obtain ⟨rfl, rfl, rfl⟩ := hcs
    exact ⟨[], Els.nil w, by simp⟩
  · simp [Value.cells] at hcs
    obtain ⟨rfl, rfl, rfl⟩ := hcs
    have hm' : m = cap := by simpa using hmm
    subst hm'
    rw [hce] at hall
    have each : ∀ i, i < len → ∃ y : α, (∀ j u, (enc y)[j]? = some u → w.cell? ((x.add (i * K)).add j) = some u) ∧ Fits y := by
      intro i hi
      obtain ⟨cs', hc', ht'⟩ := hall i (by omega)
      obtain ⟨_, hlen, hcell⟩ := World.cells?_some hc'
      obtain ⟨y, rfl, hy⟩ := hel _ _ _ hlen ht'
      refine ⟨y, fun j u hu => ?_, hy⟩
      have hj : j < K := by have := (List.getElem?_eq_some_iff.1 hu).1; rwa [hE.len] at this
      rw [hcell j hj]
      exact hu
    obtain ⟨C, hC⟩ := choose_lt each
    have hlen : ((List.range len).map C).length = len := by simp
    have hat : ∀ j k, ((List.range len).map C)[j]? = some k → j < len ∧ C j = k := fun j k hj => by
      have hjl : j < len := by have := (List.getElem?_eq_some_iff.1 hj).1; rwa [hlen] at this
      refine ⟨hjl, ?_⟩
      rw [List.getElem?_map, List.getElem?_range hjl] at hj
      simpa using hj
    refine ⟨(List.range len).map C, ⟨by rw [hlen]; omega, some x, m, by rw [hlen], by rw [hlen]; exact hl, hm, .inr ⟨x, rfl, ?_⟩⟩, fun y hy => ?_⟩
    · by_cases h0 : len = 0
      · left; subst h0; rfl
      · right
        obtain ⟨b, off, spot⟩ := x
        have hK : ∃ u, (enc (C 0))[0]? = some u := ⟨_, List.getElem?_eq_getElem (by rw [hE.len]; exact hE.pos)⟩
        obtain ⟨u0, hu0⟩ := hK
        have h00 := (hC 0 (by omega)).1 0 u0 hu0
        have hspot : spot = none := by simpa [Addr.add] using World.cell?_spot h00
        subst hspot
        refine ⟨b, off, rfl, ?_, fun j k hj i u hu => ?_⟩
        · rw [els_plain, els_plain] at h00
          exact block_lt_of_cell h00
        · obtain ⟨hjl, rfl⟩ := hat j k hj
          have h1 := (hC j hjl).1 i u hu
          rw [els_plain, els_plain] at h1
          exact h1
    · obtain ⟨j, hj⟩ := List.getElem?_of_mem hy
      obtain ⟨hjl, rfl⟩ := hat j y hj
      exact (hC j hjl).2
end Go.Proofs.YtfclhehpbniapaaDoor
