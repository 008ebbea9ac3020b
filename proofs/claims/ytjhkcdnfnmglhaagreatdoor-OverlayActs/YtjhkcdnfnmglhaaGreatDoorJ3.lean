/- Some texts of mine, one behind the other (joined by program). -/
import Derived.Test.YtjhkcdnfnmglhaaGreatDoorJ2
import Derived.Test.YtjhkcdnfnmglhaaGreatDoorJ1
import Derived.Maps.AppendAt
import Derived.Laws.AppendOwnNone
import Derived.Deep.Strs
import Derived.ChangeArms
import Derived.DataReads
import Derived.OrdersHeld
import Derived.WalkKit
import Derived.Deep.MidRow
import Derived.BigQuiet
import Derived.WalkSpells
import Derived.Lib.QuietBelow
import Derived.Maps.OwnOps
import Derived.Maps.OwnSet
import Derived.Maps.RangeWalk
import Derived.Test.YtjhkcdnfnmglhaaGreatDoorProg

/- Slices of structs of K cells, however they came about; appended to a row of the call's own; opened where they came in. Generic: the elements are 'enc x'. -/
namespace Go.Proofs.YtjhkcdnfnmglhaaGreatDoor
open Go.RowKit Go.ChangeShapes Go.WideShapes Go.Deep
set_option linter.unusedVariables false

variable {α : Type} {enc : α → List Value} {K : Nat}
/-- Each element has K cells, each of one cell. -/
structure EncOk (enc : α → List Value) (K : Nat) : Prop where
  len : ∀ x, (enc x).length = K
  one : ∀ x, ∀ v ∈ enc x, v.oneCell' = true
  pos : 0 < K
def ecells (enc : α → List Value) (xs : List α) : List Value := xs.flatMap enc
theorem ecells_append (a b : List α) : ecells enc (a ++ b) = ecells enc a ++ ecells enc b := by simp [ecells]
theorem ecells_length (hE : EncOk enc K) (xs : List α) : (ecells enc xs).length = xs.length * K := by
  induction xs with
  | nil => simp [ecells]
  | cons k r ih =>
    have e : ecells enc (k :: r) = enc k ++ ecells enc r := by simp [ecells]
    rw [e, List.length_append, hE.len, ih, List.length_cons, Nat.add_mul, Nat.one_mul, Nat.add_comm]
theorem ecells_one (hE : EncOk enc K) (xs : List α) : ∀ v ∈ ecells enc xs, v.oneCell' = true := by
  intro u hu
  simp only [ecells, List.mem_flatMap] at hu
  obtain ⟨k, _, h⟩ := hu
  exact hE.one k u h
theorem ecells_at (hE : EncOk enc K) : ∀ (xs : List α) (j : Nat) (x : α), xs[j]? = some x → ∀ i u, (enc x)[i]? = some u → (ecells enc xs)[j * K + i]? = some u
  | [], j, x, h => by simp at h
  | y :: r, 0, x, h => fun i u hu => by
    simp at h; subst h
    have hi := (List.getElem?_eq_some_iff.1 hu).1
    have e : ecells enc (y :: r) = enc y ++ ecells enc r := by simp [ecells]
    rw [e, Nat.zero_mul, Nat.zero_add, List.getElem?_append_left hi]
    exact hu
  | y :: r, j + 1, x, h => fun i u hu => by
    have ih := ecells_at hE r j x (by simpa using h) i u hu
    have e : ecells enc (y :: r) = enc y ++ ecells enc r := by simp [ecells]
    rw [e, List.getElem?_append_right (by rw [hE.len, Nat.add_mul]; omega), hE.len, show (j + 1) * K + i - K = j * K + i by rw [Nat.add_mul, Nat.one_mul]; omega]
    exact ih
theorem ecells_inv (hE : EncOk enc K) : ∀ (xs : List α) (i : Nat) (u : Value), (ecells enc xs)[i]? = some u → ∃ j x k, xs[j]? = some x ∧ (enc x)[k]? = some u ∧ i = j * K + k
  | [], i, u, h => by simp [ecells] at h
  | y :: r, i, u, h => by
    have e : ecells enc (y :: r) = enc y ++ ecells enc r := by simp [ecells]
    rw [e] at h
    by_cases hi : i < K
    · rw [List.getElem?_append_left (by rw [hE.len]; exact hi)] at h
      exact ⟨0, y, i, rfl, h, by omega⟩
    · rw [List.getElem?_append_right (by rw [hE.len]; omega), hE.len] at h
      obtain ⟨j, x, k, h1, h2, h3⟩ := ecells_inv hE r (i - K) u h
      exact ⟨j + 1, x, k, by simpa using h1, h2, by rw [Nat.add_mul, Nat.one_mul]; omega⟩

/-- The value is a slice whose elements are these. -/
def Els (enc : α → List Value) (K : Nat) (w : World) (v : Value) (xs : List α) : Prop :=
  xs.length ≤ maxLen ∧ ∃ a cap, v = .slice a xs.length cap ∧ xs.length ≤ cap ∧ cap ≤ maxLen ∧
    ((a = none ∧ cap = 0) ∨ ∃ x, a = some x ∧ (xs = [] ∨ ∃ b off, x = ⟨b, off, none⟩ ∧ b < w.heap.size ∧ ∀ j y, xs[j]? = some y → ∀ i u, (enc y)[i]? = some u → w.cell? ⟨b, off + j * K + i, none⟩ = some u))
theorem Els.nil (w : World) : Els enc K w (.slice none 0 0) [] := ⟨by simp, none, 0, rfl, Nat.le_refl _, by simp, .inl ⟨rfl, rfl⟩⟩
theorem Els.shape {w : World} {v : Value} {xs : List α} (h : Els enc K w v xs) : ∃ a cap, v = .slice a xs.length cap := by
  obtain ⟨_, a, cap, e, _⟩ := h
  exact ⟨a, cap, e⟩
theorem Els.spared {w w' : World} {v : Value} {xs : List α} (h : Els enc K w v xs) (hs : w.heap.size ≤ w'.heap.size) (hg : ∀ g, v.ownBlock = some g → g < w.heap.size → w'.heap[g]? = w.heap[g]?) : Els enc K w' v xs := by
  obtain ⟨h2, a, cap, rfl, h3, h4, h5⟩ := h
  refine ⟨h2, a, cap, rfl, h3, h4, ?_⟩
  rcases h5 with h5 | ⟨x, rfl, h5⟩
  · exact .inl h5
  · refine .inr ⟨x, rfl, ?_⟩
    rcases h5 with h5 | ⟨b, off, rfl, hlt, hc⟩
    · exact .inl h5
    · exact .inr ⟨b, off, rfl, Nat.lt_of_lt_of_le hlt hs, fun j y hj i u hu => (World.cell?_of_block (a := ⟨b, off + j * K + i, none⟩) (hg b rfl hlt)).trans (hc j y hj i u hu)⟩
theorem Els.kept {w w' : World} {v : Value} {xs : List α} (h : Els enc K w v xs) (hb : Below w.heap.size w w') : Els enc K w' v xs := h.spared hb.size fun g _ hg => hb.block g hg
theorem Els.alloc {w : World} {v : Value} {xs : List α} (h : Els enc K w v xs) (o : Obj) : Els enc K (w.alloc o) v xs := h.kept ((Below.refl _ _).alloc (Nat.le_refl _) _)
theorem Els.grown {w w' : World} {v : Value} {xs : List α} {row : Option Nat} (h : Els enc K w v xs) (hg : w.grownBy w' row) (hne : v.ownBlock ≠ row) : Els enc K w' v xs :=
  h.spared hg.size fun g hv hlt => hg.block g hlt (fun e => hne (hv.trans e))
theorem Els.lenEq {w : World} {a : Option Addr} {n cap : Nat} {xs : List α} (h : Els enc K w (.slice a n cap) xs) : xs.length = n := by
  obtain ⟨_, a', cap', e, _⟩ := h
  simp only [Value.slice.injEq] at e
  exact e.2.1.symm
theorem Els.capLe {w : World} {a : Option Addr} {n cap : Nat} {xs : List α} (h : Els enc K w (.slice a n cap) xs) : n ≤ cap ∧ cap ≤ maxLen := by
  obtain ⟨_, a', cap', e, h3, h4, _⟩ := h
  simp only [Value.slice.injEq] at e
  obtain ⟨rfl, rfl, rfl⟩ := e
  exact ⟨h3, h4⟩
theorem Els.addr {w : World} {a : Option Addr} {n cap : Nat} {xs : List α} (h : Els enc K w (.slice a n cap) xs) (h0 : 0 < n) : ∃ b off, a = some ⟨b, off, none⟩ ∧ b < w.heap.size ∧ ∀ j y, xs[j]? = some y → ∀ i u, (enc y)[i]? = some u → w.cell? ⟨b, off + j * K + i, none⟩ = some u := by
  obtain ⟨_, a', cap', e, h3, h4, h5⟩ := h
  simp only [Value.slice.injEq] at e
  obtain ⟨rfl, rfl, rfl⟩ := e
  rcases h5 with ⟨_, rfl⟩ | ⟨x, rfl, rfl | ⟨b, off, rfl, hlt, hc⟩⟩
  · omega
  · simp at h0
  · exact ⟨b, off, rfl, hlt, hc⟩
/-- 'x[:n]'. -/
theorem Els.front {w : World} {a : Option Addr} {l cap n : Nat} {xs : List α} (h : Els enc K w (.slice a l cap) xs) (hn : n ≤ l) : Els enc K w (.slice a n cap) (xs.take n) := by
  have hl := h.lenEq
  have hc := h.capLe
  have hlen : (xs.take n).length = n := by rw [List.length_take]; omega
  refine ⟨by omega, a, cap, by rw [hlen], by omega, hc.2, ?_⟩
  by_cases h0 : 0 < l
  · obtain ⟨b, off, rfl, hlt, hcell⟩ := h.addr h0
    refine .inr ⟨_, rfl, .inr ⟨b, off, rfl, hlt, fun j k hj => ?_⟩⟩
    have hj' : j < n := by have := (List.getElem?_eq_some_iff.1 hj).1; omega
    rw [List.getElem?_take_of_lt hj'] at hj
    exact hcell j k hj
  · obtain ⟨_, a', cap', e, h3, h4, h5⟩ := h
    simp only [Value.slice.injEq] at e
    obtain ⟨rfl, rfl, rfl⟩ := e
    rcases h5 with h5 | ⟨x, rfl, h5⟩
    · exact .inl h5
    · refine .inr ⟨x, rfl, .inl ?_⟩
      exact List.eq_nil_of_length_eq_zero (by omega)
/-- Where its cells lie. -/
theorem Els.src (hE : EncOk enc K) {w : World} {v : Value} {xs : List α} (h : Els enc K w v xs) : ∃ sp cap, v = .slice sp xs.length cap ∧ (0 < xs.length → ∃ ad, sp = some ad ∧ ∀ j u, (ecells enc xs)[j]? = some u → w.cell? (ad.add j) = some u) := by
  obtain ⟨h2, ad, cap, rfl, h3, h4, h5⟩ := h
  refine ⟨ad, cap, rfl, fun hp => ?_⟩
  rcases h5 with ⟨_, rfl⟩ | ⟨x, rfl, rfl | ⟨b, off, rfl, hlt, hc⟩⟩
  · omega
  · simp at hp
  · refine ⟨_, rfl, fun i u hu => ?_⟩
    obtain ⟨j, y, k, hj, hk, rfl⟩ := ecells_inv hE xs i u hu
    have e1 : (⟨b, off, none⟩ : Addr).add (j * K + k) = ⟨b, off + (j * K + k), none⟩ := by unfold Addr.add; split <;> simp_all
    rw [e1, ← Nat.add_assoc]
    exact hc j y hj k u hk
theorem els_add (g i : Nat) : (⟨g, 0, none⟩ : Addr).add i = ⟨g, i, none⟩ := by unfold Addr.add; split <;> simp_all
/-- A row that the call owns. -/
theorem Els.ofOwn (hE : EncOk enc K) {w : World} {base : Nat} {e : TypeId} {v : Value} {n : Nat} {xs : List α} (h : w.ownsRow base e K v n (ecells enc xs)) : Els enc K w v xs := by
  have h1 := h.1
  rw [ecells_length hE] at h1
  have h1' : xs.length = n := Nat.eq_of_mul_eq_mul_right hE.pos h1
  rcases h.2 with ⟨rfl, h0⟩ | ⟨g, cap, cur, rfl, hb, hg, hn, hm, hs, ht⟩
  · have : xs = [] := List.eq_nil_of_length_eq_zero (by omega)
    subst this
    exact Els.nil w
  · refine ⟨by omega, _, cap, by rw [h1'], by omega, hm, .inr ⟨_, rfl, .inr ⟨g, 0, rfl, (Array.getElem?_eq_some_iff.1 hg).1, ?_⟩⟩⟩
    intro j y hj i u hu
    have a1 := h.cells (g := g) rfl _ _ (ecells_at hE xs j y hj i u hu)
    rw [els_add] at a1
    rw [Nat.zero_add]
    exact a1
/-- A row of one that a literal makes. -/
theorem Els.one (hE : EncOk enc K) {w : World} {x : α} {e : TypeId} : Els enc K (w.alloc (.cells (enc x).toArray e)) (.slice (some ⟨w.heap.size, 0, none⟩) 1 1) [x] := by
  refine ⟨by simp [maxLen], _, 1, rfl, Nat.le_refl _, by simp [maxLen], .inr ⟨_, rfl, .inr ⟨w.heap.size, 0, rfl, by simp, fun j y hj i u hu => ?_⟩⟩⟩
  have hj0 : j = 0 := by have := (List.getElem?_eq_some_iff.1 hj).1; simp at this; exact this
  subst hj0
  simp at hj
  subst hj
  rw [Nat.zero_mul, Nat.zero_add]
  have hh := heap_alloc_new w (.cells (enc x).toArray e)
  simp only [World.cell?, hh]
  simpa using hu

/-- 'append(own, ...)'. -/
theorem wpList_append_els (hE : EncOk enc K) {P : Program} (w : World) {ops : Array Oper} {rest : List Oper} {o : Oper} {a : Act} {Q : Exit → Act → World → Prop} (hgd : o.guard = none) (s x : Operand) (t : TypeId)
    (ho : o.op = .call { callee := .builtin .append, args := #[s, x], argTypes := #[t, t] })
    (base : Nat) (e : TypeId) (i : TypeInfo) (z : Value) (by8 : Nat) (ht : P.underlying t = some (.slice e)) (hi : P.info? e = some i) (hz : i.zero = some z) (hzs : z.cells.size = K) (hsize : i.size = K) (hby : i.bytes = by8) (hby9 : by8 ≤ 1000000)
    (v : Value) (n : Nat) (xs : List α) (hs : a.eval s = v) (hown : w.ownsRow base e K v n (ecells enc xs))
    (y : Value) (ks : List α) (hx : a.eval x = y) (hsrc : Els enc K w y ks) (h63 : n + ks.length ≤ 1000000) (hbase : base ≤ w.heap.size)
    (h : ∀ v' w', w'.ownsRow base e K v' (n + ks.length) (ecells enc (xs ++ ks)) → w.grownBy w' v.ownBlock → (v'.ownBlock = v.ownBlock ∨ v'.ownBlock = some w.heap.size) → wpList P ops Q rest (a.put o.dst v') w') : wpList P ops Q (o :: rest) a w := by
  have hp := hsrc.src hE
  obtain ⟨h2, sp, cap, rfl, h3, h4, h5⟩ := hsrc
  obtain ⟨sp', cap', e', hp⟩ := hp
  simp only [Value.slice.injEq] at e'
  obtain ⟨rfl, _, rfl⟩ := e'
  have hbig : (n + ks.length) * by8 ≤ 140737488355328 := Nat.le_trans (Nat.mul_le_mul h63 hby9) (by decide)
  by_cases h0 : ks = []
  · subst h0
    rcases h5 with ⟨rfl, rfl⟩ | ⟨ad, rfl, _⟩
    · refine wpList_append_own_none hgd s x t ho base e i K ht hi v n _ hs hown hx ?_
      exact h v w (by simpa using hown) (World.grownBy.refl _ _) (.inl rfl)
    · refine wpList_append_own_at w hgd s x t ho base e i z K by8 ht hi hz hsize hby hzs hE.pos v n _ hs hown ad 0 cap (ecells enc []) hx (by simp [ecells]) ?_ ?_ (by unfold maxLen; omega) (by simpa using hbig) hbase ?_
      · intro j u hu
        simp [ecells] at hu
      · intro u hu
        simp [ecells] at hu
      · intro v' w' hw hg _ hat
        rw [← ecells_append] at hw
        exact h v' w' hw hg hat
  · have hl : 0 < ks.length := by
      cases ks with
      | nil => exact absurd rfl h0
      | cons z r => simp
    obtain ⟨ad, rfl, hc⟩ := hp hl
    refine wpList_append_own_at w hgd s x t ho base e i z K by8 ht hi hz hsize hby hzs hE.pos v n _ hs hown ad ks.length cap (ecells enc ks) hx (ecells_length hE _) hc (ecells_one hE ks) (by unfold maxLen; omega) hbig hbase ?_
    intro v' w' hw hg _ hat
    rw [← ecells_append] at hw
    exact h v' w' hw hg hat

/-- The same as a step of a region that draws. -/
theorem step_append_els (hE : EncOk enc K) {P : Program} {w : World} {ops : Array Oper} {o : Oper} {a : Act} {K' : Act → World → Prop} {Q : Exit → Act → World → Prop} {E : Prop} (hgd : o.guard = none) (s x : Operand) (t : TypeId)
    (ho : o.op = .call { callee := .builtin .append, args := #[s, x], argTypes := #[t, t] })
    (base : Nat) (e : TypeId) (i : TypeInfo) (z : Value) (by8 : Nat) (ht : P.underlying t = some (.slice e)) (hi : P.info? e = some i) (hz : i.zero = some z) (hzs : z.cells.size = K) (hsize : i.size = K) (hby : i.bytes = by8) (hby9 : by8 ≤ 1000000)
    (v : Value) (n : Nat) (xs : List α) (hs : a.eval s = v) (hown : w.ownsRow base e K v n (ecells enc xs))
    (y : Value) (ks : List α) (hx : a.eval x = y) (hsrc : Els enc K w y ks) (h63 : n + ks.length ≤ 1000000) (hbase : base ≤ w.heap.size)
    (h : ∀ v' w', w'.ownsRow base e K v' (n + ks.length) (ecells enc (xs ++ ks)) → w.grownBy w' v.ownBlock → K' (a.put o.dst v') w') :
    if Region.wanted o (yielded ops a.tmps) = true then Oper.wp P o a w K' Q else E := by
  have hw : Region.wanted o (yielded ops a.tmps) = true := by simp [Region.wanted, hgd]
  rw [if_pos hw]
  have hp := hsrc.src hE
  obtain ⟨h2, sp, cap, rfl, h3, h4, h5⟩ := hsrc
  obtain ⟨sp', cap', e', hp⟩ := hp
  simp only [Value.slice.injEq] at e'
  obtain ⟨rfl, _, rfl⟩ := e'
  have hbig : (n + ks.length) * by8 ≤ 140737488355328 := Nat.le_trans (Nat.mul_le_mul h63 hby9) (by decide)
  have key : ∃ v' w', (Builtin.append_ #[t, t] o.type #[v, .slice sp ks.length cap]).run P w = .ok v' w' ∧ w'.ownsRow base e K v' (n + ks.length) (ecells enc (xs ++ ks)) ∧ w.grownBy w' v.ownBlock := by
    by_cases h0 : ks = []
    · subst h0
      rcases h5 with ⟨rfl, rfl⟩ | ⟨ad, rfl, _⟩
      · exact ⟨v, w, run_append_owned_none (P := P) (w := w) base t o.type e i K ht hi v n _ hown, by simpa using hown, World.grownBy.refl _ _⟩
      · obtain ⟨v', w', hr, k1, k2, _, _⟩ := run_append_own_at (P := P) w base t o.type e i z K by8 ht hi hz hsize hby hzs hE.pos v n _ hown ad 0 cap (ecells enc []) (by simp [ecells]) (fun j u hu => by simp [ecells] at hu) (fun u hu => by simp [ecells] at hu) (by unfold maxLen; omega) (by simpa using hbig) hbase
        rw [← ecells_append] at k1
        exact ⟨v', w', hr, k1, k2⟩
    · have hl : 0 < ks.length := by
        cases ks with
        | nil => exact absurd rfl h0
        | cons z r => simp
      obtain ⟨ad, rfl, hc⟩ := hp hl
      obtain ⟨v', w', hr, k1, k2, _, _⟩ := run_append_own_at (P := P) w base t o.type e i z K by8 ht hi hz hsize hby hzs hE.pos v n _ hown ad ks.length cap (ecells enc ks) (ecells_length hE _) hc (ecells_one hE ks) (by unfold maxLen; omega) hbig hbase
      rw [← ecells_append] at k1
      exact ⟨v', w', hr, k1, k2⟩
  obtain ⟨v', w', hr, k1, k2⟩ := key
  unfold Oper.wp
  simp [execOp, ho, resolve, invoke, builtin, hs, hx, hr, Result.andThen]
  exact h v' w' k1 k2

/-! ### Elements that came in -/
theorem els_plain (b off j : Nat) : (⟨b, off, none⟩ : Addr).add j = ⟨b, off + j, none⟩ := by unfold Addr.add; split <;> simp_all
theorem open_els {H : Type} {tok : TypeId × Value → H} {P : Program} {w : World} {base : Nat} {held : Bool} {a : Option Addr} {len cap : Nat} {d : DataW H} {p : List MemPlace} {t e : TypeId} [Inhabited α] (hE : EncOk enc K) (Fits : α → Prop)
    (ht : P.underlying t = some (.slice e)) (hce : P.cellsOf e = K)
    (hel : ∀ (n : Nat) (cs : List Value) (x : DataW H × List MemPlace), cs.length = K → DataW.trod tok P w base (fun _ => true) held n e cs = some x → ∃ y, cs = enc y ∧ Fits y)
    (h : DataW.Trod tok P w base (fun _ => true) held t (.slice a len cap) d p) : ∃ xs, Els enc K w (.slice a len cap) xs ∧ ∀ y ∈ xs, Fits y := by
  obtain ⟨fuel, hf⟩ := h
  rcases open_slice ht hf with ⟨hcs, _⟩ | ⟨x, l, c, m, n, D, Pl, hcs, _, hl, hm, hmm, _, hall⟩
  · simp [Value.cells] at hcs
    obtain ⟨rfl, rfl, rfl⟩ := hcs
    exact ⟨[], Els.nil w, by simp⟩
  · simp [Value.cells] at hcs
    obtain ⟨rfl, rfl, rfl⟩ := hcs
    have hm' : m = cap := by simpa using hmm
    subst hm'
    rw [hce] at hall
    have each : ∀ i, i < len → ∃ y : α, (∀ j u, (enc y)[j]? = some u → w.cell? ((x.add (i * K)).add j) = some u) ∧ Fits y := by
      intro i hi
      obtain ⟨cs', hc', ht'⟩ := hall i (by omega)
      obtain ⟨_, hlen, hcell⟩ := World.cells?_some hc'
      obtain ⟨y, rfl, hy⟩ := hel _ _ _ hlen ht'
      refine ⟨y, fun j u hu => ?_, hy⟩
      have hj : j < K := by have := (List.getElem?_eq_some_iff.1 hu).1; rwa [hE.len] at this
      rw [hcell j hj]
      exact hu
    obtain ⟨C, hC⟩ := choose_lt each
    have hlen : ((List.range len).map C).length = len := by simp
    have hat : ∀ j k, ((List.range len).map C)[j]? = some k → j < len ∧ C j = k := fun j k hj => by
      have hjl : j < len := by have := (List.getElem?_eq_some_iff.1 hj).1; rwa [hlen] at this
      refine ⟨hjl, ?_⟩
      rw [List.getElem?_map, List.getElem?_range hjl] at hj
      simpa using hj
    refine ⟨(List.range len).map C, ⟨by rw [hlen]; omega, some x, m, by rw [hlen], by rw [hlen]; exact hl, hm, .inr ⟨x, rfl, ?_⟩⟩, fun y hy => ?_⟩
    · by_cases h0 : len = 0
      · left; subst h0; rfl
      · right
        obtain ⟨b, off, spot⟩ := x
        have hK : ∃ u, (enc (C 0))[0]? = some u := ⟨_, List.getElem?_eq_getElem (by rw [hE.len]; exact hE.pos)⟩
        obtain ⟨u0, hu0⟩ := hK
        have h00 := (hC 0 (by omega)).1 0 u0 hu0
        have hspot : spot = none := by simpa [Addr.add] using World.cell?_spot h00
        subst hspot
        refine ⟨b, off, rfl, ?_, fun j k hj i u hu => ?_⟩
        · rw [els_plain, els_plain] at h00
          exact block_lt_of_cell h00
        · obtain ⟨hjl, rfl⟩ := hat j k hj
          have h1 := (hC j hjl).1 i u hu
          rw [els_plain, els_plain] at h1
          exact h1
    · obtain ⟨j, hj⟩ := List.getElem?_of_mem hy
      obtain ⟨hjl, rfl⟩ := hat j y hj
      exact (hC j hjl).2
end Go.Proofs.YtjhkcdnfnmglhaaGreatDoor

/- Keys (a heap and a page) in plain numbers: their order, sorted lists of them, rows of pages. -/
namespace Go.Proofs.YtjhkcdnfnmglhaaGreatDoor

open Go Go.RowKit
/-- A key: its heap, its page. -/
abbrev Ky := Int × Int
/-- In order. -/
abbrev KLt (a b : Ky) : Prop := a.1 < b.1 ∨ a.1 = b.1 ∧ a.2 < b.2
theorem KLt.irr (a : Ky) : ¬ KLt a a := by unfold KLt; omega
theorem KLt.trans {a b c : Ky} (h : KLt a b) (k : KLt b c) : KLt a c := by unfold KLt at *; omega
theorem KLt.ne {a b : Ky} (h : KLt a b) : a ≠ b := by rintro rfl; exact KLt.irr _ h
theorem klt_or {a b : Ky} (h : a ≠ b) (k : ¬ KLt a b) : KLt b a := by
  obtain ⟨a1, a2⟩ := a
  obtain ⟨b1, b2⟩ := b
  unfold KLt at *
  simp only [ne_eq, Prod.mk.injEq] at *
  omega

/-- Where a key belongs. -/
def pos (x : Ky) : List Ky → Nat
  | [] => 0
  | y :: r => if KLt y x then pos x r + 1 else 0
theorem pos_le (x : Ky) : ∀ l : List Ky, pos x l ≤ l.length
  | [] => Nat.le_refl _
  | y :: r => by
    unfold pos
    split
    · have := pos_le x r; simp; omega
    · exact Nat.zero_le _
theorem pos_below (x : Ky) : ∀ (l : List Ky) (j : Nat) (h : j < l.length), j < pos x l → KLt l[j] x
  | [], _, h, _ => by simp at h
  | y :: r, 0, h, hj => by
    unfold pos at hj
    split at hj
    · assumption
    · omega
  | y :: r, j + 1, h, hj => by
    unfold pos at hj
    split at hj
    · exact pos_below x r j (by simpa using h) (by omega)
    · omega
theorem pos_stop (x : Ky) : ∀ (l : List Ky) (h : pos x l < l.length), ¬ KLt l[pos x l] x
  | [], h => by simp at h
  | y :: r, h => by
    by_cases hy : KLt y x
    · have e : pos x (y :: r) = pos x r + 1 := by rw [pos, if_pos hy]
      have h' : pos x r < r.length := by rw [e] at h; simpa using h
      have := pos_stop x r h'
      simpa [e] using this
    · have e : pos x (y :: r) = 0 := by rw [pos, if_neg hy]
      simpa [e] using hy
/-- The first that isn't below it: there. -/
theorem pos_is {x : Ky} {l : List Ky} {k : Nat} (hk : k ≤ l.length) (hb : ∀ j (h : j < l.length), j < k → KLt l[j] x) (hs : ∀ h : k < l.length, ¬ KLt l[k] x) : pos x l = k := by
  have h1 := pos_le x l
  rcases Nat.lt_trichotomy (pos x l) k with h | h | h
  · exact absurd (hb _ (by omega) h) (pos_stop x l (by omega))
  · exact h
  · exact absurd (pos_below x l k (by omega) h) (hs (by omega))

/-- A key put where it belongs, unless it is there. -/
def ins (out : List Ky) (x : Ky) : List Ky := if x ∈ out then out else out.take (pos x out) ++ x :: out.drop (pos x out)
def sortR (ks : List Ky) : List Ky := ks.foldl ins []
theorem sortR_snoc (ks : List Ky) (x : Ky) : sortR (ks ++ [x]) = ins (sortR ks) x := by simp [sortR, List.foldl_append]
theorem ins_mem {out : List Ky} {x k : Ky} : k ∈ ins out x ↔ k = x ∨ k ∈ out := by
  unfold ins
  split
  · rename_i h
    exact ⟨.inr, fun e => e.elim (fun e => e ▸ h) id⟩
  · constructor
    · intro h
      rw [List.mem_append, List.mem_cons] at h
      rcases h with h | h | h
      · exact .inr (List.mem_of_mem_take h)
      · exact .inl h
      · exact .inr (List.mem_of_mem_drop h)
    · intro h
      rw [List.mem_append, List.mem_cons]
      rcases h with h | h
      · exact .inr (.inl h)
      · rw [← List.take_append_drop (pos x out) out, List.mem_append] at h
        rcases h with h | h
        · exact .inl h
        · exact .inr (.inr h)
theorem ins_len {out : List Ky} {x : Ky} : (ins out x).length = if x ∈ out then out.length else out.length + 1 := by
  have := pos_le x out
  unfold ins
  split
  · rfl
  · simp [List.length_append, List.length_take, List.length_drop]; omega
theorem ins_rises {out : List Ky} {x : Ky} (h : out.Pairwise KLt) : (ins out x).Pairwise KLt := by
  unfold ins
  split
  · exact h
  · rename_i hx
    have hlow : ∀ a ∈ out.take (pos x out), KLt a x := by
      intro a ha
      obtain ⟨j, hj, rfl⟩ := List.getElem_of_mem ha
      rw [List.length_take] at hj
      rw [List.getElem_take]
      exact pos_below x out j (by omega) (by omega)
    have hhigh : ∀ b ∈ out.drop (pos x out), KLt x b := by
      intro b hb
      obtain ⟨j, hj, rfl⟩ := List.getElem_of_mem hb
      rw [List.length_drop] at hj
      rw [List.getElem_drop]
      have h0 : KLt x (out[pos x out]'(by omega)) := by
        refine klt_or (fun e => hx ?_) (pos_stop x out (by omega))
        rw [← e]
        exact List.getElem_mem _
      cases j with
      | zero => simpa using h0
      | succ j => exact h0.trans ((List.pairwise_iff_getElem.1 h) _ _ (by omega) (by omega) (by omega))
    rw [List.pairwise_append]
    refine ⟨h.sublist (List.take_sublist _ _), ?_, ?_⟩
    · rw [List.pairwise_cons]
      exact ⟨hhigh, h.sublist (List.drop_sublist _ _)⟩
    · intro a ha b hb
      rcases List.mem_cons.1 hb with rfl | hb
      · exact hlow a ha
      · exact (hlow a ha).trans (hhigh b hb)
theorem sortR_mem {ks : List Ky} {k : Ky} : k ∈ sortR ks ↔ k ∈ ks := by
  have gen : ∀ (ks out : List Ky), k ∈ ks.foldl ins out ↔ k ∈ out ∨ k ∈ ks := by
    intro ks
    induction ks with
    | nil => intro out; simp
    | cons x r ih =>
      intro out
      rw [List.foldl_cons, ih, ins_mem, List.mem_cons]
      constructor
      · rintro ((h | h) | h)
        · exact .inr (.inl h)
        · exact .inl h
        · exact .inr (.inr h)
      · rintro (h | h | h)
        · exact .inl (.inr h)
        · exact .inl (.inl h)
        · exact .inr h
  have := gen ks []
  simpa [sortR] using this
theorem sortR_rises (ks : List Ky) : (sortR ks).Pairwise KLt := by
  have gen : ∀ (ks out : List Ky), out.Pairwise KLt → (ks.foldl ins out).Pairwise KLt := by
    intro ks
    induction ks with
    | nil => intro out h; exact h
    | cons x r ih => intro out h; rw [List.foldl_cons]; exact ih _ (ins_rises h)
  exact gen ks [] List.Pairwise.nil
theorem rises_nodup {l : List Ky} (h : l.Pairwise KLt) : l.Nodup := h.imp fun h => h.ne
theorem sortR_len (ks : List Ky) : (sortR ks).length ≤ ks.length := by
  have gen : ∀ (ks out : List Ky), (ks.foldl ins out).length ≤ out.length + ks.length := by
    intro ks
    induction ks with
    | nil => intro out; simp
    | cons x r ih =>
      intro out
      rw [List.foldl_cons]
      have h1 := ih (ins out x)
      have h2 := @ins_len out x
      simp only [List.length_cons]
      split at h2 <;> omega
  have := gen ks []
  simpa [sortR] using this
/-- Two rising lists of the same keys are one. -/
theorem rises_same : ∀ {l m : List Ky}, l.Pairwise KLt → m.Pairwise KLt → (∀ k, k ∈ l ↔ k ∈ m) → l = m
  | [], [], _, _, _ => rfl
  | [], b :: s, _, _, h => by have := (h b).2 (by simp); simp at this
  | a :: r, [], _, _, h => by have := (h a).1 (by simp); simp at this
  | a :: r, b :: s, h1, h2, h => by
    obtain ⟨a1, a2⟩ := List.pairwise_cons.1 h1
    obtain ⟨b1, b2⟩ := List.pairwise_cons.1 h2
    have hab : a = b := by
      rcases List.mem_cons.1 ((h a).1 (by simp)) with e | ha
      · exact e
      · rcases List.mem_cons.1 ((h b).2 (by simp)) with e | hb
        · exact e.symm
        · exact absurd ((a1 b hb).trans (b1 a ha)) (KLt.irr _)
    subst hab
    congr 1
    refine rises_same a2 b2 fun k => ⟨fun hk => ?_, fun hk => ?_⟩
    · rcases List.mem_cons.1 ((h k).1 (by simp [hk])) with e | h'
      · exact absurd (e ▸ a1 k hk) (KLt.irr _)
      · exact h'
    · rcases List.mem_cons.1 ((h k).2 (by simp [hk])) with e | h'
      · exact absurd (e ▸ b1 k hk) (KLt.irr _)
      · exact h'

/-! ### How often each is there -/
/-- How many of ks are among S. -/
def cin (S ks : List Ky) : Nat := (ks.filter fun k => decide (k ∈ S)).length
theorem cin_nil (ks : List Ky) : cin [] ks = 0 := by simp [cin]
theorem cin_cons (S : List Ky) (k : Ky) (r : List Ky) : cin S (k :: r) = (if k ∈ S then 1 else 0) + cin S r := by
  unfold cin
  rw [List.filter_cons]
  by_cases h : k ∈ S
  · rw [if_pos (decide_eq_true h), if_pos h, List.length_cons]; omega
  · rw [if_neg (by simpa using h), if_neg h]; omega
theorem cin_snoc {S : List Ky} {x : Ky} (hx : x ∉ S) : ∀ ks : List Ky, cin (S ++ [x]) ks = cin S ks + ks.count x
  | [] => rfl
  | k :: r => by
    have ih := cin_snoc hx r
    rw [cin_cons, cin_cons, ih, List.count_cons]
    by_cases e : k = x
    · subst e
      rw [if_pos (by simp), if_neg hx, if_pos (by simp)]; omega
    · have he : (k == x) = false := by simpa using e
      by_cases hS : k ∈ S
      · rw [if_pos (by simp [hS]), if_pos hS, he]; simp; omega
      · rw [if_neg (by simp [hS, e]), if_neg hS, he]; simp
theorem cin_all {S ks : List Ky} (h : ∀ k ∈ ks, k ∈ S) : cin S ks = ks.length := by
  unfold cin
  rw [List.filter_eq_self.2 (by simpa using h)]
theorem cin_le (S ks : List Ky) : cin S ks ≤ ks.length := List.length_filter_le _ _

/-! ### Rows of pages -/
/-- A row: its heap, its first page, how many. -/
structure Rw where
  h : Int
  p : Int
  n : Nat
/-- One key more. -/
def rstep (out : List Rw) (k : Ky) : List Rw :=
  match out.getLast? with
  | some r => if r.h = k.1 ∧ wrap64 (r.p + (r.n : Int)) = k.2 then out.dropLast ++ [⟨r.h, r.p, r.n + 1⟩] else out ++ [⟨k.1, k.2, 1⟩]
  | none => out ++ [⟨k.1, k.2, 1⟩]
def runsR (s : List Ky) : List Rw := s.foldl rstep []
theorem runsR_snoc (s : List Ky) (x : Ky) : runsR (s ++ [x]) = rstep (runsR s) x := by simp [runsR, List.foldl_append]
/-- Pages in all. -/
def pages (l : List Rw) : Nat := (l.map (·.n)).sum
theorem pages_snoc (l : List Rw) (r : Rw) : pages (l ++ [r]) = pages l + r.n := by simp [pages]
theorem rstep_cases (out : List Rw) (k : Ky) : (∃ l r, out = l ++ [r] ∧ r.h = k.1 ∧ wrap64 (r.p + (r.n : Int)) = k.2 ∧ rstep out k = l ++ [⟨r.h, r.p, r.n + 1⟩]) ∨ (rstep out k = out ++ [⟨k.1, k.2, 1⟩] ∧ ∀ l r, out = l ++ [r] → ¬ (r.h = k.1 ∧ wrap64 (r.p + (r.n : Int)) = k.2)) := by
  rcases List.eq_nil_or_concat out with rfl | ⟨l, r, rfl⟩
  · right
    exact ⟨rfl, fun l r e => by simp at e⟩
  · rw [List.concat_eq_append]
    have e : (l ++ [r]).getLast? = some r := by simp
    by_cases h : r.h = k.1 ∧ wrap64 (r.p + (r.n : Int)) = k.2
    · left
      refine ⟨l, r, rfl, h.1, h.2, ?_⟩
      unfold rstep
      rw [e]
      simp only
      rw [if_pos h, List.dropLast_concat]
    · right
      refine ⟨?_, fun l' r' e' => ?_⟩
      · unfold rstep
        rw [e]
        simp only
        rw [if_neg h]
      · obtain ⟨_, h2⟩ := List.append_inj' e' rfl
        simp only [List.cons.injEq, and_true] at h2
        exact h2 ▸ h
theorem pages_step (out : List Rw) (k : Ky) : pages (rstep out k) = pages out + 1 := by
  rcases rstep_cases out k with ⟨l, r, rfl, _, _, e⟩ | ⟨e, _⟩
  · rw [e, pages_snoc, pages_snoc]
    simp only
    omega
  · rw [e, pages_snoc]
theorem pages_runs (s : List Ky) : pages (runsR s) = s.length := by
  have gen : ∀ (s : List Ky) (out : List Rw), pages (s.foldl rstep out) = pages out + s.length := by
    intro s
    induction s with
    | nil => intro out; simp
    | cons x r ih => intro out; rw [List.foldl_cons, ih, pages_step, List.length_cons]; omega
  have := gen s []
  simpa [runsR, pages] using this
theorem pages_mem {l : List Rw} {r : Rw} (h : r ∈ l) : r.n ≤ pages l := by
  induction l with
  | nil => simp at h
  | cons x t ih =>
    have e : pages (x :: t) = x.n + pages t := by simp [pages]
    rw [e]
    rcases List.mem_cons.1 h with rfl | h
    · omega
    · have := ih h; omega
theorem runs_len_step (out : List Rw) (k : Ky) : (rstep out k).length ≤ out.length + 1 := by
  rcases rstep_cases out k with ⟨l, r, rfl, _, _, e⟩ | ⟨e, _⟩ <;> rw [e] <;> simp
theorem runs_len (s : List Ky) : (runsR s).length ≤ s.length := by
  have gen : ∀ (s : List Ky) (out : List Rw), (s.foldl rstep out).length ≤ out.length + s.length := by
    intro s
    induction s with
    | nil => intro out; simp
    | cons x r ih =>
      intro out
      rw [List.foldl_cons]
      have h1 := ih (rstep out x)
      have h2 := runs_len_step out x
      simp only [List.length_cons]
      omega
  have := gen s []
  simpa [runsR] using this
/-- Each row's numbers fit, and it has a page. -/
def RwI (r : Rw) : Prop := (-9223372036854775808 ≤ r.h ∧ r.h ≤ 9223372036854775807) ∧ (-9223372036854775808 ≤ r.p ∧ r.p ≤ 9223372036854775807) ∧ 1 ≤ r.n
theorem runs_fit {s : List Ky} (h : ∀ k ∈ s, (-9223372036854775808 ≤ k.1 ∧ k.1 ≤ 9223372036854775807) ∧ (-9223372036854775808 ≤ k.2 ∧ k.2 ≤ 9223372036854775807)) : ∀ r ∈ runsR s, RwI r := by
  have gen : ∀ (s : List Ky) (out : List Rw), (∀ k ∈ s, (-9223372036854775808 ≤ k.1 ∧ k.1 ≤ 9223372036854775807) ∧ (-9223372036854775808 ≤ k.2 ∧ k.2 ≤ 9223372036854775807)) → (∀ r ∈ out, RwI r) → ∀ r ∈ s.foldl rstep out, RwI r := by
    intro s
    induction s with
    | nil => intro out _ ho; exact ho
    | cons x t ih =>
      intro out hs ho
      rw [List.foldl_cons]
      refine ih _ (fun k hk => hs k (by simp [hk])) fun r hr => ?_
      rcases rstep_cases out x with ⟨l, r', rfl, _, _, e⟩ | ⟨e, _⟩
      · rw [e, List.mem_append, List.mem_singleton] at hr
        rcases hr with hr | rfl
        · exact ho r (by simp [hr])
        · obtain ⟨h1, h2, h3⟩ := ho r' (by simp)
          exact ⟨h1, h2, by simp only; omega⟩
      · rw [e, List.mem_append, List.mem_singleton] at hr
        rcases hr with hr | rfl
        · exact ho r hr
        · exact ⟨(hs x (by simp)).1, (hs x (by simp)).2, Nat.le_refl _⟩
  exact gen s [] h (by simp)
end Go.Proofs.YtjhkcdnfnmglhaaGreatDoor

/- The small functions of package key and of the document: Right, Number, Of; Less. -/
namespace Go.Proofs.YtjhkcdnfnmglhaaGreatDoor
open Go.RowKit
set_option linter.unusedVariables false
set_option maxRecDepth 20000

abbrev kv (k : Ky) : Value := .agg #[.int .i64 k.1, .int .i64 k.2]
def KI (k : Ky) : Prop := I64 k.1 ∧ I64 k.2
/-- It is right. -/
def isR (k : Ky) : Bool := decide (1 ≤ k.1 ∧ k.1 ≤ 64 ∧ 0 ≤ k.2 ∧ k.2 ≤ 4095)
theorem isR_iff {k : Ky} : isR k = true ↔ 1 ≤ k.1 ∧ k.1 ≤ 64 ∧ 0 ≤ k.2 ∧ k.2 ≤ 4095 := by simp [isR]
def numK (k : Ky) : Int := if isR k = true then 4096 * k.1 + k.2 else 0

theorem Tryz.sizeK10 : (Tryz.prog.info? 32).map (·.size) = some 2 := by kernel_rfl
/-- A key in a variable, loaded. -/
theorem load_kv {w : World} {b o : Nat} {h p : Int} (c0 : w.cell? ⟨b, o, none⟩ = some (.int .i64 h)) (c1 : w.cell? ⟨b, o + 1, none⟩ = some (.int .i64 p)) : (loadVar 32 ⟨b, o, none⟩).run Tryz.prog w = .ok (.agg #[.int .i64 h, .int .i64 p]) w :=
  run_loadVar_mid (P := Tryz.prog) _ b o 32 [.int .i64 h, .int .i64 p] _ (fun j v hv => by
    match j, hv with
    | 0, hv => simp at hv; subst hv; exact c0
    | 1, hv => simp at hv; subst hv; exact c1
    | j + 2, hv => simp at hv) Tryz.underlying32 rfl Tryz.sizeK10
/-- Both cells of a key stored. -/
theorem set_two {w : World} {b : Nat} {u v : Value} (x y : Value) (h0 : w.cell? ⟨b, 0, none⟩ = some u) (h1 : w.cell? ⟨b, 1, none⟩ = some v) :
    ((w.setCell ⟨b, 0, none⟩ x).setCell ⟨b, 1, none⟩ y).cell? ⟨b, 0, none⟩ = some x ∧ ((w.setCell ⟨b, 0, none⟩ x).setCell ⟨b, 1, none⟩ y).cell? ⟨b, 0 + 1, none⟩ = some y := by
  have n1 : (⟨b, 1, none⟩ : Addr) ≠ ⟨b, 0, none⟩ := by simp
  have n2 : (⟨b, 0, none⟩ : Addr) ≠ ⟨b, 1, none⟩ := by simp
  refine ⟨?_, ?_⟩
  · rw [World.cell?_setCell_other (h := n1), World.cell?_setCell_same (h := h0)]
  · exact World.cell?_setCell_same _ _ y (u := v) (by rw [World.cell?_setCell_other (h := n2)]; exact h1)
theorem right_any (h p : Int) (w : World) :
    Calls Tryz.prog 32 #[.agg #[.int .i64 h, .int .i64 p]] w fun e w' => e = .returned (.bool (isR (h, p))) ∧ Below w.heap.size w w' := by
  by_cases h1 : 1 ≤ h
  · by_cases h2 : h ≤ 64
    · by_cases h3 : 0 ≤ p
      · by_cases h4 : p ≤ 4095
        · have e4 : p < 4096 := by omega
          have HK : Hid (isR (h, p) = true) := decide_eq_true ⟨h1, h2, h3, h4⟩
          go_enter Tryz.func32, Tryz.ntmps32
          go_wp2
          go_ret
          exact ⟨ret_bool HK.out.symm, (Below.refl _ _).alloc (Nat.le_refl _) _⟩
        · have e4 : ¬ p < 4096 := by omega
          have HK : Hid (isR (h, p) = false) := decide_eq_false (fun e => h4 e.2.2.2)
          go_enter Tryz.func32, Tryz.ntmps32
          go_wp2
          go_ret
          exact ⟨ret_bool HK.out.symm, (Below.refl _ _).alloc (Nat.le_refl _) _⟩
      · have HK : Hid (isR (h, p) = false) := decide_eq_false (fun e => h3 e.2.2.1)
        go_enter Tryz.func32, Tryz.ntmps32
        go_wp2
        go_ret
        exact ⟨ret_bool HK.out.symm, (Below.refl _ _).alloc (Nat.le_refl _) _⟩
    · have HK : Hid (isR (h, p) = false) := decide_eq_false (fun e => h2 e.2.1)
      go_enter Tryz.func32, Tryz.ntmps32
      go_wp2
      go_ret
      exact ⟨ret_bool HK.out.symm, (Below.refl _ _).alloc (Nat.le_refl _) _⟩
  · have HK : Hid (isR (h, p) = false) := decide_eq_false (fun e => h1 e.1)
    go_enter Tryz.func32, Tryz.ntmps32
    go_wp2
    go_ret
    exact ⟨ret_bool HK.out.symm, (Below.refl _ _).alloc (Nat.le_refl _) _⟩
theorem refRight_any (h p : Int) (w : World) :
    Calls Tryz.prog 35 #[.agg #[.int .i64 h, .int .i64 p]] w fun e w' => e = .returned (.bool (isR (h, p))) ∧ Below w.heap.size w w' := by
  by_cases h1 : 1 ≤ h
  · have h1' : 0 < h := by omega
    by_cases h2 : h ≤ 64
    · by_cases h3 : 0 ≤ p
      · by_cases h4 : p ≤ 4095
        · have HK : Hid (isR (h, p) = true) := decide_eq_true ⟨h1, h2, h3, h4⟩
          go_enter Tryz.func35, Tryz.ntmps35
          go_wp2
          go_ret
          exact ⟨ret_bool HK.out.symm, (Below.refl _ _).alloc (Nat.le_refl _) _⟩
        · have HK : Hid (isR (h, p) = false) := decide_eq_false (fun e => h4 e.2.2.2)
          go_enter Tryz.func35, Tryz.ntmps35
          go_wp2
          go_ret
          exact ⟨ret_bool HK.out.symm, (Below.refl _ _).alloc (Nat.le_refl _) _⟩
      · have HK : Hid (isR (h, p) = false) := decide_eq_false (fun e => h3 e.2.2.1)
        go_enter Tryz.func35, Tryz.ntmps35
        go_wp2
        go_ret
        exact ⟨ret_bool HK.out.symm, (Below.refl _ _).alloc (Nat.le_refl _) _⟩
    · have HK : Hid (isR (h, p) = false) := decide_eq_false (fun e => h2 e.2.1)
      go_enter Tryz.func35, Tryz.ntmps35
      go_wp2
      go_ret
      exact ⟨ret_bool HK.out.symm, (Below.refl _ _).alloc (Nat.le_refl _) _⟩
  · have h1' : ¬ 0 < h := by omega
    have HK : Hid (isR (h, p) = false) := decide_eq_false (fun e => h1 e.1)
    go_enter Tryz.func35, Tryz.ntmps35
    go_wp2
    go_ret
    exact ⟨ret_bool HK.out.symm, (Below.refl _ _).alloc (Nat.le_refl _) _⟩

end Go.Proofs.YtjhkcdnfnmglhaaGreatDoor

/- Slices of keys, however they came about; appended to a row of the call's own. -/
namespace Go.Proofs.YtjhkcdnfnmglhaaGreatDoor
open Go.RowKit Go.ChangeShapes Go.WideShapes Go.Deep
set_option linter.unusedVariables false

/-- Keys as cells. -/
def kcells (ks : List Ky) : List Value := ks.flatMap fun k => [.int .i64 k.1, .int .i64 k.2]
theorem kcells_length (ks : List Ky) : (kcells ks).length = ks.length * 2 := by
  induction ks with
  | nil => rfl
  | cons k r ih => simp only [kcells, List.flatMap_cons, List.length_append, List.length_cons, List.length_nil] at *; omega
theorem kcells_append (a b : List Ky) : kcells (a ++ b) = kcells a ++ kcells b := by simp [kcells]
theorem kcells_one (ks : List Ky) : ∀ v ∈ kcells ks, v.oneCell' = true := by
  intro u hu
  simp only [kcells, List.mem_flatMap] at hu
  obtain ⟨k, _, h⟩ := hu
  simp at h
  rcases h with rfl | rfl <;> rfl
theorem kcells_at : ∀ (ks : List Ky) (j : Nat) (k : Ky), ks[j]? = some k → (kcells ks)[j * 2]? = some (.int .i64 k.1) ∧ (kcells ks)[j * 2 + 1]? = some (.int .i64 k.2)
  | [], j, k, h => by simp at h
  | x :: r, 0, k, h => by
    simp at h; subst h
    exact ⟨rfl, rfl⟩
  | x :: r, j + 1, k, h => by
    have ih := kcells_at r j k (by simpa using h)
    have e : kcells (x :: r) = .int .i64 x.1 :: .int .i64 x.2 :: kcells r := rfl
    rw [e, show (j + 1) * 2 = j * 2 + 1 + 1 by omega]
    exact ⟨by simpa using ih.1, by simpa using ih.2⟩
theorem kcells_inv : ∀ (ks : List Ky) (i : Nat) (u : Value), (kcells ks)[i]? = some u → ∃ j k, ks[j]? = some k ∧ (i = j * 2 ∧ u = .int .i64 k.1 ∨ i = j * 2 + 1 ∧ u = .int .i64 k.2)
  | [], i, u, h => by simp [kcells] at h
  | x :: r, 0, u, h => ⟨0, x, rfl, .inl ⟨rfl, by simpa [kcells] using h.symm⟩⟩
  | x :: r, 1, u, h => ⟨0, x, rfl, .inr ⟨rfl, by simpa [kcells] using h.symm⟩⟩
  | x :: r, i + 2, u, h => by
    have e : kcells (x :: r) = .int .i64 x.1 :: .int .i64 x.2 :: kcells r := rfl
    rw [e] at h
    obtain ⟨j, k, h1, h2⟩ := kcells_inv r i u (by simpa using h)
    refine ⟨j + 1, k, by simpa using h1, ?_⟩
    rcases h2 with ⟨rfl, h2⟩ | ⟨rfl, h2⟩
    · exact .inl ⟨by omega, h2⟩
    · exact .inr ⟨by omega, h2⟩

/-- The value is a slice whose elements are these keys. -/
def Keys (w : World) (v : Value) (ks : List Ky) : Prop :=
  (∀ k ∈ ks, KI k) ∧ ks.length ≤ maxLen ∧ ∃ a cap, v = .slice a ks.length cap ∧ ks.length ≤ cap ∧ cap ≤ maxLen ∧
    ((a = none ∧ cap = 0) ∨ ∃ x, a = some x ∧ (ks = [] ∨ ∃ b off, x = ⟨b, off, none⟩ ∧ b < w.heap.size ∧ ∀ j k, ks[j]? = some k → w.cell? ⟨b, off + j * 2, none⟩ = some (.int .i64 k.1) ∧ w.cell? ⟨b, off + j * 2 + 1, none⟩ = some (.int .i64 k.2)))
theorem Keys.nil (w : World) : Keys w (.slice none 0 0) [] := ⟨by simp, by simp, none, 0, rfl, Nat.le_refl _, by simp, .inl ⟨rfl, rfl⟩⟩
theorem Keys.shape {w : World} {v : Value} {ks : List Ky} (h : Keys w v ks) : ∃ a cap, v = .slice a ks.length cap := by
  obtain ⟨_, _, a, cap, e, _⟩ := h
  exact ⟨a, cap, e⟩
theorem Keys.spared {w w' : World} {v : Value} {ks : List Ky} (h : Keys w v ks) (hs : w.heap.size ≤ w'.heap.size) (hg : ∀ g, v.ownBlock = some g → g < w.heap.size → w'.heap[g]? = w.heap[g]?) : Keys w' v ks := by
  obtain ⟨h1, h2, a, cap, rfl, h3, h4, h5⟩ := h
  refine ⟨h1, h2, a, cap, rfl, h3, h4, ?_⟩
  rcases h5 with h5 | ⟨x, rfl, h5⟩
  · exact .inl h5
  · refine .inr ⟨x, rfl, ?_⟩
    rcases h5 with h5 | ⟨b, off, rfl, hlt, hc⟩
    · exact .inl h5
    · exact .inr ⟨b, off, rfl, Nat.lt_of_lt_of_le hlt hs, fun j k hk => ⟨(World.cell?_of_block (a := ⟨b, off + j * 2, none⟩) (hg b rfl hlt)).trans (hc j k hk).1, (World.cell?_of_block (a := ⟨b, off + j * 2 + 1, none⟩) (hg b rfl hlt)).trans (hc j k hk).2⟩⟩
theorem Keys.kept {w w' : World} {v : Value} {ks : List Ky} (h : Keys w v ks) (hb : Below w.heap.size w w') : Keys w' v ks := h.spared hb.size fun g _ hg => hb.block g hg
theorem Keys.alloc {w : World} {v : Value} {ks : List Ky} (h : Keys w v ks) (o : Obj) : Keys (w.alloc o) v ks := h.kept ((Below.refl _ _).alloc (Nat.le_refl _) _)
theorem Keys.grown {w w' : World} {v : Value} {ks : List Ky} {row : Option Nat} (h : Keys w v ks) (hg : w.grownBy w' row) (hne : v.ownBlock ≠ row) : Keys w' v ks :=
  h.spared hg.size fun g hv hlt => hg.block g hlt (fun e => hne (hv.trans e))
theorem Keys.lenEq {w : World} {a : Option Addr} {n cap : Nat} {ks : List Ky} (h : Keys w (.slice a n cap) ks) : ks.length = n := by
  obtain ⟨_, _, a', cap', e, _⟩ := h
  simp only [Value.slice.injEq] at e
  exact e.2.1.symm
theorem Keys.capLe {w : World} {a : Option Addr} {n cap : Nat} {ks : List Ky} (h : Keys w (.slice a n cap) ks) : n ≤ cap ∧ cap ≤ maxLen := by
  obtain ⟨_, _, a', cap', e, h3, h4, _⟩ := h
  simp only [Value.slice.injEq] at e
  obtain ⟨rfl, rfl, rfl⟩ := e
  exact ⟨h3, h4⟩
theorem Keys.addr {w : World} {a : Option Addr} {n cap : Nat} {ks : List Ky} (h : Keys w (.slice a n cap) ks) (h0 : 0 < n) : ∃ b off, a = some ⟨b, off, none⟩ ∧ b < w.heap.size ∧ ∀ j k, ks[j]? = some k → w.cell? ⟨b, off + j * 2, none⟩ = some (.int .i64 k.1) ∧ w.cell? ⟨b, off + j * 2 + 1, none⟩ = some (.int .i64 k.2) := by
  obtain ⟨_, _, a', cap', e, h3, h4, h5⟩ := h
  simp only [Value.slice.injEq] at e
  obtain ⟨rfl, rfl, rfl⟩ := e
  rcases h5 with ⟨_, rfl⟩ | ⟨x, rfl, rfl | ⟨b, off, rfl, hlt, hc⟩⟩
  · omega
  · simp at h0
  · exact ⟨b, off, rfl, hlt, hc⟩
theorem Keys.fit {w : World} {v : Value} {ks : List Ky} (h : Keys w v ks) {j : Nat} {k : Ky} (hj : ks[j]? = some k) : KI k := h.1 k (List.mem_of_getElem? hj)
/-- 'x[:n]'. -/
theorem Keys.front {w : World} {a : Option Addr} {l cap n : Nat} {ks : List Ky} (h : Keys w (.slice a l cap) ks) (hn : n ≤ l) : Keys w (.slice a n cap) (ks.take n) := by
  have hl := h.lenEq
  have hc := h.capLe
  have hlen : (ks.take n).length = n := by rw [List.length_take]; omega
  refine ⟨fun z hz => h.1 z (List.mem_of_mem_take hz), by omega, a, cap, by rw [hlen], by omega, hc.2, ?_⟩
  by_cases h0 : 0 < l
  · obtain ⟨b, off, rfl, hlt, hcell⟩ := h.addr h0
    refine .inr ⟨_, rfl, .inr ⟨b, off, rfl, hlt, fun j k hj => ?_⟩⟩
    have hj' : j < n := by have := (List.getElem?_eq_some_iff.1 hj).1; omega
    rw [List.getElem?_take_of_lt hj'] at hj
    exact hcell j k hj
  · obtain ⟨_, _, a', cap', e, h3, h4, h5⟩ := h
    simp only [Value.slice.injEq] at e
    obtain ⟨rfl, rfl, rfl⟩ := e
    rcases h5 with h5 | ⟨x, rfl, h5⟩
    · exact .inl h5
    · refine .inr ⟨x, rfl, .inl ?_⟩
      exact List.eq_nil_of_length_eq_zero (by omega)
/-- 'x[n:]', of a row with an address. -/
theorem Keys.back {w : World} {b off l cap n cap' : Nat} {ks : List Ky} (h : Keys w (.slice (some ⟨b, off, none⟩) l cap) ks) (hn : n < l) (hc' : l - n ≤ cap') (hc2 : cap' ≤ maxLen) : Keys w (.slice (some ⟨b, off + n * 2, none⟩) (l - n) cap') (ks.drop n) := by
  have hl := h.lenEq
  have hlen : (ks.drop n).length = l - n := by rw [List.length_drop]; omega
  obtain ⟨b', off', e, hlt, hcell⟩ := h.addr (by omega)
  simp only [Option.some.injEq, Addr.mk.injEq, and_true] at e
  obtain ⟨rfl, rfl⟩ := e
  refine ⟨fun z hz => h.1 z (List.mem_of_mem_drop hz), by omega, _, cap', by rw [hlen], by omega, hc2, .inr ⟨_, rfl, .inr ⟨b, off + n * 2, rfl, hlt, fun j k hj => ?_⟩⟩⟩
  rw [List.getElem?_drop] at hj
  have := hcell (n + j) k hj
  rw [show off + n * 2 + j * 2 = off + (n + j) * 2 by omega]
  exact this
/-- Where its cells lie. -/
theorem Keys.src {w : World} {v : Value} {ks : List Ky} (h : Keys w v ks) : ∃ sp cap, v = .slice sp ks.length cap ∧ (0 < ks.length → ∃ ad, sp = some ad ∧ ∀ j u, (kcells ks)[j]? = some u → w.cell? (ad.add j) = some u) := by
  obtain ⟨h1, h2, ad, cap, rfl, h3, h4, h5⟩ := h
  refine ⟨ad, cap, rfl, fun hp => ?_⟩
  rcases h5 with ⟨_, rfl⟩ | ⟨x, rfl, rfl | ⟨b, off, rfl, hlt, hc⟩⟩
  · omega
  · simp at hp
  · refine ⟨_, rfl, fun i u hu => ?_⟩
    obtain ⟨j, k, hj, h⟩ := kcells_inv ks i u hu
    have e1 : (⟨b, off, none⟩ : Addr).add i = ⟨b, off + i, none⟩ := by unfold Addr.add; split <;> simp_all
    rw [e1]
    rcases h with ⟨rfl, rfl⟩ | ⟨rfl, rfl⟩
    · exact (hc j k hj).1
    · exact (hc j k hj).2
/-- A row that the call owns. -/
theorem Keys.ofOwn {w : World} {base : Nat} {e : TypeId} {v : Value} {n : Nat} {ks : List Ky} (h : w.ownsRow base e 2 v n (kcells ks)) (hz : ∀ k ∈ ks, KI k) : Keys w v ks := by
  have h1 := h.1
  rw [kcells_length] at h1
  have h1' : ks.length = n := by omega
  rcases h.2 with ⟨rfl, h0⟩ | ⟨g, cap, cur, rfl, hb, hg, hn, hm, hs, ht⟩
  · have : ks = [] := List.eq_nil_of_length_eq_zero (by omega)
    subst this
    exact Keys.nil w
  · refine ⟨hz, by omega, _, cap, by rw [h1'], by omega, hm, .inr ⟨_, rfl, .inr ⟨g, 0, rfl, (Array.getElem?_eq_some_iff.1 hg).1, ?_⟩⟩⟩
    intro j k hj
    have a1 := h.cells (g := g) rfl _ _ (kcells_at ks j k hj).1
    have a2 := h.cells (g := g) rfl _ _ (kcells_at ks j k hj).2
    rw [addr_add] at a1 a2
    rw [Nat.zero_add]
    exact ⟨a1, a2⟩
/-- A row of one that a literal makes. -/
theorem Keys.one {w : World} {k : Ky} {e : TypeId} (hz : KI k) : Keys (w.alloc (.cells #[.int .i64 k.1, .int .i64 k.2] e)) (.slice (some ⟨w.heap.size, 0, none⟩) 1 1) [k] := by
  refine ⟨fun y hy => by rw [List.mem_singleton.1 hy]; exact hz, by simp [maxLen], _, 1, rfl, Nat.le_refl _, by simp [maxLen], .inr ⟨_, rfl, .inr ⟨w.heap.size, 0, rfl, by simp, fun j k' hj => ?_⟩⟩⟩
  have hj0 : j = 0 := by have := (List.getElem?_eq_some_iff.1 hj).1; simp at this; exact this
  subst hj0
  simp at hj
  subst hj
  exact ⟨by simp, by simp⟩

/-- 'append(own, keys...)'. -/
theorem wpList_append_keys {P : Program} (w : World) {ops : Array Oper} {rest : List Oper} {o : Oper} {a : Act} {Q : Exit → Act → World → Prop} (hgd : o.guard = none) (s x : Operand) (t : TypeId)
    (ho : o.op = .call { callee := .builtin .append, args := #[s, x], argTypes := #[t, t] })
    (base : Nat) (e : TypeId) (i : TypeInfo) (ht : P.underlying t = some (.slice e)) (hi : P.info? e = some i) (hz : i.zero = some (.agg #[.int .i64 0, .int .i64 0])) (hsize : i.size = 2) (hby : i.bytes = 16)
    (v : Value) (n : Nat) (xs : List Ky) (hs : a.eval s = v) (hown : w.ownsRow base e 2 v n (kcells xs))
    (y : Value) (ks : List Ky) (hx : a.eval x = y) (hsrc : Keys w y ks) (h63 : n + ks.length ≤ 1000000) (hbase : base ≤ w.heap.size)
    (h : ∀ v' w', w'.ownsRow base e 2 v' (n + ks.length) (kcells (xs ++ ks)) → w.grownBy w' v.ownBlock → (v'.ownBlock = v.ownBlock ∨ v'.ownBlock = some w.heap.size) → wpList P ops Q rest (a.put o.dst v') w') : wpList P ops Q (o :: rest) a w := by
  have hp := hsrc.src
  obtain ⟨h1, h2, sp, cap, rfl, h3, h4, h5⟩ := hsrc
  obtain ⟨sp', cap', e', hp⟩ := hp
  simp only [Value.slice.injEq] at e'
  obtain ⟨rfl, _, rfl⟩ := e'
  by_cases h0 : ks = []
  · subst h0
    rcases h5 with ⟨rfl, rfl⟩ | ⟨ad, rfl, _⟩
    · refine wpList_append_own_none hgd s x t ho base e i 2 ht hi v n _ hs hown hx ?_
      exact h v w (by simpa using hown) (World.grownBy.refl _ _) (.inl rfl)
    · refine wpList_append_own_at w hgd s x t ho base e i _ 2 16 ht hi hz hsize hby rfl (by decide) v n _ hs hown ad 0 cap (kcells []) hx rfl ?_ ?_ (by unfold maxLen; omega) (by simp at h63; omega) hbase ?_
      · intro j u hu
        simp [kcells] at hu
      · intro u hu
        exact kcells_one _ u hu
      · intro v' w' hw hg _ hat
        rw [← kcells_append] at hw
        exact h v' w' hw hg hat
  · have hl : 0 < ks.length := by
      cases ks with
      | nil => exact absurd rfl h0
      | cons z r => simp
    obtain ⟨ad, rfl, hc⟩ := hp hl
    refine wpList_append_own_at w hgd s x t ho base e i _ 2 16 ht hi hz hsize hby rfl (by decide) v n _ hs hown ad ks.length cap (kcells ks) hx (kcells_length _) hc (kcells_one ks) (by unfold maxLen; omega) (by omega) hbase ?_
    intro v' w' hw hg _ hat
    rw [← kcells_append] at hw
    exact h v' w' hw hg hat
theorem grewKeys {w w' : World} {B n : Nat} {e : TypeId} {v : Value} {xs : List Value} {a : World} {z : Nat} (h : Below B a w) (hown : w.ownsRow B e z v n xs) (hg : w.grownBy w' v.ownBlock) (hB : B ≤ w.heap.size) : Below B a w' :=
  h.grown hg hB fun j hj => (hown.lt j hj).1
theorem own_shapeZ {w : World} {base n z : Nat} {e : TypeId} {v : Value} {xs : List Value} (h : w.ownsRow base e z v n xs) : ∃ a c, v = .slice a n c := by
  rcases h.2 with ⟨rfl, rfl⟩ | ⟨g, cap, cur, rfl, _⟩
  · exact ⟨none, 0, rfl⟩
  · exact ⟨_, _, rfl⟩

/-! ### Keys that came in -/
theorem add_plain10 (b off j : Nat) : (⟨b, off, none⟩ : Addr).add j = ⟨b, off + j, none⟩ := by unfold Addr.add; split <;> simp_all
set_option maxRecDepth 20000 in
theorem open_keys {H : Type} {enc : TypeId × Value → H} {w : World} {base : Nat} {held : Bool} {a : Option Addr} {len cap : Nat} {d : DataW H} {p : List MemPlace}
    (h : DataW.Trod enc Tryz.prog w base (fun _ => true) held 54 (.slice a len cap) d p) : ∃ ks, Keys w (.slice a len cap) ks := by
  obtain ⟨fuel, hf⟩ := h
  rcases open_slice Tryz.underlying54 hf with ⟨hcs, _⟩ | ⟨x, l, c, m, n, D, Pl, hcs, _, hl, hm, hmm, _, hall⟩
  · simp [Value.cells] at hcs
    obtain ⟨rfl, rfl, rfl⟩ := hcs
    exact ⟨[], Keys.nil w⟩
  · simp [Value.cells] at hcs
    obtain ⟨rfl, rfl, rfl⟩ := hcs
    have hm' : m = cap := by simpa using hmm
    subst hm'
    have c2 : Tryz.prog.cellsOf 32 = 2 := by kernel_rfl
    rw [c2] at hall
    have each : ∀ i, i < len → ∃ k : Ky, w.cell? ((x.add (i * 2)).add 0) = some (.int .i64 k.1) ∧ w.cell? ((x.add (i * 2)).add 1) = some (.int .i64 k.2) ∧ KI k := by
      intro i hi
      obtain ⟨cs', hc', ht'⟩ := hall i (by omega)
      obtain ⟨_, hlen, hcell⟩ := World.cells?_some hc'
      match cs', hlen with
      | [v0, v1], _ =>
        obtain ⟨z0, z1, n'', _, _, k0, k1⟩ := trod_struct2 Tryz.underlying32 ht'
        have k0' : DataW.trod enc Tryz.prog w base (fun _ => true) held n'' 3 [v0] = some z0 := k0
        have k1' : DataW.trod enc Tryz.prog w base (fun _ => true) held n'' 3 [v1] = some z1 := k1
        obtain ⟨kd, e0, _, w0⟩ := DataW.trod_int Tryz.underlying3 k0'
        obtain ⟨kk, e1, _, w1⟩ := DataW.trod_int Tryz.underlying3 k1'
        simp at e0 e1
        subst e0 e1
        refine ⟨(kd, kk), (hcell 0 (by omega)).trans rfl, (hcell 1 (by omega)).trans rfl, ?_, ?_⟩
        · simpa [Lit.wf, IntKind.min, IntKind.max, IntKind.signed, IntKind.bits, I64] using w0
        · simpa [Lit.wf, IntKind.min, IntKind.max, IntKind.signed, IntKind.bits, I64] using w1
    haveI : Inhabited Ky := ⟨(0, 0)⟩
    obtain ⟨C, hC⟩ := choose_lt each
    have hlen : ((List.range len).map C).length = len := by simp
    have hat : ∀ j k, ((List.range len).map C)[j]? = some k → j < len ∧ C j = k := fun j k hj => by
      have hjl : j < len := by have := (List.getElem?_eq_some_iff.1 hj).1; rwa [hlen] at this
      refine ⟨hjl, ?_⟩
      rw [List.getElem?_map, List.getElem?_range hjl] at hj
      simpa using hj
    refine ⟨(List.range len).map C, fun k hk => ?_, by rw [hlen]; unfold maxLen at *; omega, some x, m, by rw [hlen], by rw [hlen]; exact hl, hm, .inr ⟨x, rfl, ?_⟩⟩
    · obtain ⟨j, hj⟩ := List.getElem?_of_mem hk
      obtain ⟨hjl, rfl⟩ := hat j k hj
      exact (hC j hjl).2.2
    by_cases h0 : len = 0
    · left; subst h0; rfl
    · right
      obtain ⟨b, off, spot⟩ := x
      have h00 := (hC 0 (by omega)).1
      have hspot : spot = none := by simpa [Addr.add] using World.cell?_spot h00
      subst hspot
      refine ⟨b, off, rfl, ?_, fun j k hj => ?_⟩
      · rw [add_plain10, add_plain10] at h00
        exact cell_lt h00
      · obtain ⟨hjl, rfl⟩ := hat j k hj
        obtain ⟨h1, h2, _⟩ := hC j hjl
        rw [add_plain10, add_plain10] at h1 h2
        exact ⟨h1, h2⟩
set_option maxRecDepth 20000 in
theorem open_key {H : Type} {enc : TypeId × Value → H} {w : World} {base : Nat} {r : Reach} {b0 : Nat} {spare : Nat → Bool} {held : Bool} {v : Value} {d : DataW H} {p : List MemPlace}
    (hv : Value.okWide Tryz.prog w r b0 32 v) (h : DataW.Trod enc Tryz.prog w base spare held 32 v d p) : ∃ k : Ky, v = .agg #[.int .i64 k.1, .int .i64 k.2] ∧ KI k := by
  have hv' := hv
  simp only [Value.okWide, Tryz.underlying32] at hv'
  obtain ⟨cs, rfl, hsz, _⟩ := hv'
  have c2 : Tryz.prog.cellsOf 32 = 2 := by kernel_rfl
  rw [c2] at hsz
  obtain ⟨fuel, hf⟩ := h
  have hl : cs.toList.length = 2 := by simpa using hsz
  obtain ⟨v0, v1, e⟩ := list2 hl
  have hcs : cs = #[v0, v1] := by
    apply Array.ext'
    simpa using e
  subst hcs
  obtain ⟨z0, z1, n'', _, _, k0, k1⟩ := trod_struct2 Tryz.underlying32 hf
  have k0' : DataW.trod enc Tryz.prog w base spare held n'' 3 [v0] = some z0 := k0
  have k1' : DataW.trod enc Tryz.prog w base spare held n'' 3 [v1] = some z1 := k1
  obtain ⟨kd, e0, _, w0⟩ := DataW.trod_int Tryz.underlying3 k0'
  obtain ⟨kk, e1, _, w1⟩ := DataW.trod_int Tryz.underlying3 k1'
  simp at e0 e1
  subst e0 e1
  refine ⟨(kd, kk), rfl, ?_, ?_⟩
  · simpa [Lit.wf, IntKind.min, IntKind.max, IntKind.signed, IntKind.bits, I64] using w0
  · simpa [Lit.wf, IntKind.min, IntKind.max, IntKind.signed, IntKind.bits, I64] using w1
end Go.Proofs.YtjhkcdnfnmglhaaGreatDoor

/- The document's Has and Same over keys. -/
namespace Go.Proofs.YtjhkcdnfnmglhaaGreatDoor
open Go.RowKit
set_option linter.unusedVariables false
set_option maxRecDepth 20000

def hasK (ks : List Ky) (k : Ky) : Bool := decide (k ∈ ks)
theorem take_snocA {α : Type} {l : List α} {k : Nat} {x : α} (h : l[k]? = some x) : l.take (k + 1) = l.take k ++ [x] := by
  rw [List.take_add_one, h]; rfl
theorem key_at {ks : List Ky} {j : Nat} (h : j < ks.length) : ∃ h' p', ks[j]? = some (h', p') := ⟨ks[j].1, ks[j].2, List.getElem?_eq_getElem h⟩
set_option maxRecDepth 20000 in
set_option maxHeartbeats 1000000 in
theorem keyHas_any (w : World) (v : Value) (ks : List Ky) (h p : Int) (hv : Keys w v ks) :
    Calls Tryz.prog 48 #[v, .agg #[.int .i64 h, .int .i64 p]] w fun e w' => e = .returned (.bool (hasK ks (h, p))) ∧ Below w.heap.size w w' := by
  obtain ⟨a, ca, rfl⟩ := hv.shape
  have hl : ks.length ≤ 9223372036854775807 := by have := hv.2.1; unfold maxLen at this; omega
  obtain ⟨n, hn⟩ : ∃ n, n = ks.length := ⟨_, rfl⟩
  rw [← hn] at hv hl ⊢
  have HN : Hid (n = ks.length) := hn
  have HV : Hid (Keys w (.slice a n ca) ks) := hv
  clear hn hv
  go_enter Tryz.func48, Tryz.ntmps48
  go_wp2_with fail
  generalize hW : w.alloc (.cells #[.int .i64 h, .int .i64 p] 32) = W0
  have HB0 : Hid (Below w.heap.size w W0) := by rw [← hW]; exact (Below.refl _ _).alloc (Nat.le_refl _) _
  have d0 : W0.cell? ⟨w.heap.size, 0, none⟩ = some (.int .i64 h) := by rw [← hW]; simp
  have d1 : W0.cell? ⟨w.heap.size, 1, none⟩ = some (.int .i64 p) := by rw [← hW]; simp
  clear hW
  go_loopw [5] (fun i wr => ∃ k : Nat, i = .int .i64 (k : Nat) ∧ k ≤ n ∧ Hid ((h, p) ∉ ks.take k) ∧ ∃ m, wr = W0.drewN m) (fun i _ => n - (intOf i).toNat)
  case atStart => exact ⟨0, rfl, Nat.zero_le _, by simp [Hid], 0, rfl⟩
  case round =>
    obtain ⟨k, rfl, hk, HT, m, rfl⟩ := hrel
    by_cases hlt : k < n
    · obtain ⟨b, off, rfl, hb, hc⟩ := HV.out.addr (by omega)
      obtain ⟨h', p', hkk⟩ := key_at (ks := ks) (j := k) (by rw [← HN.out]; exact hlt)
      have c0 := (HB0.out.cell (p := ⟨b, off + k * 2, none⟩) hb).trans (hc k _ hkk).1
      have c1 := (HB0.out.cell (p := ⟨b, off + k * 2 + 1, none⟩) hb).trans (hc k _ hkk).2
      have HM : Hid ((h', p') ∈ ks) := List.mem_of_getElem? hkk
      have HS : Hid (ks.take (k + 1) = ks.take k ++ [(h', p')]) := take_snocA hkk
      clear hc hb hkk
      simp only at c0 c1
      by_cases e1 : h' = h
      · by_cases e2 : p' = p
        · subst e1 e2
          have HK : Hid (hasK ks (h', p') = true) := decide_eq_true HM.out
          go_wp2_with fail
          go_quiet (fail)
          go_wp2
          go_ret
          rw [World.drewN_drewN]
          exact ⟨ret_bool HK.out.symm, HB0.out.trans ((below_dr _ _).mono HB0.out.size)⟩
        · have HT2 : Hid ((h, p) ∉ ks.take (k + 1)) := by
            unfold Hid
            rw [HS.out, List.mem_append, List.mem_singleton]
            exact fun h => h.elim HT.out (fun e => e2 (by cases e; rfl))
          have hne : (p' == p) = false := by simpa using e2
          clear HS HM HT
          subst e1
          go_wp2_with fail
          go_quiet (fail)
          go_wp2
          go_roundw
          case rel => exact ⟨k + 1, by go_num, by omega, HT2, _, rfl⟩
          case measure => simp [intOf]; omega
      · have HT2 : Hid ((h, p) ∉ ks.take (k + 1)) := by
          unfold Hid
          rw [HS.out, List.mem_append, List.mem_singleton]
          exact fun h => h.elim HT.out (fun e => e1 (by cases e; rfl))
        have hne : (h' == h) = false := by simpa using e1
        clear HS HM HT
        go_wp2_with fail
        go_quiet (fail)
        go_wp2
        go_roundw
        case rel => exact ⟨k + 1, by go_num, by omega, HT2, _, rfl⟩
        case measure => simp [intOf]; omega
    · have HK : Hid (hasK ks (h, p) = false) := by
        have h1 := HT.out
        rw [List.take_of_length_le (by rw [← HN.out]; omega)] at h1
        exact decide_eq_false h1
      go_wp2
      go_ret
      exact ⟨ret_bool HK.out.symm, HB0.out.trans ((below_dr _ _).mono HB0.out.size)⟩

/-! ### Same -/
def sameK (us vs : List Ky) : Bool := decide (us = vs)
set_option maxRecDepth 20000 in
set_option maxHeartbeats 1000000 in
theorem keySame_any (w : World) (x y : Value) (us vs : List Ky) (hx : Keys w x us) (hy : Keys w y vs) :
    Calls Tryz.prog 23 #[x, y] w fun e w' => e = .returned (.bool (sameK us vs)) ∧ ∃ m, w' = w.drewN m := by
  obtain ⟨a, ca, rfl⟩ := hx.shape
  obtain ⟨b, cb, rfl⟩ := hy.shape
  have hl : us.length ≤ 9223372036854775807 := by have := hx.2.1; unfold maxLen at this; omega
  have hl2 : vs.length ≤ 9223372036854775807 := by have := hy.2.1; unfold maxLen at this; omega
  by_cases hne : us.length = vs.length
  · have HE : Hid (us.length = vs.length) := hne
    rw [← hne] at hy ⊢
    have HX : Hid (Keys w (.slice a us.length ca) us) := hx
    have HY : Hid (Keys w (.slice b us.length cb) vs) := hy
    clear hx hy hne hl2
    obtain ⟨n, hn⟩ : ∃ n, n = us.length := ⟨_, rfl⟩
    rw [← hn] at HX HY hl HE ⊢
    have HN : Hid (n = us.length) := hn
    clear hn
    go_enter Tryz.func23, Tryz.ntmps23
    go_wp2_with fail
    go_loopw [5] (fun i wr => ∃ k : Nat, i = .int .i64 (k : Nat) ∧ k ≤ n ∧ Hid (us.take k = vs.take k) ∧ ∃ m, wr = w.drewN m) (fun i _ => n - (intOf i).toNat)
    case atStart => exact ⟨0, rfl, Nat.zero_le _, rfl, 0, rfl⟩
    case round =>
      obtain ⟨k, rfl, hk, HT, m, rfl⟩ := hrel
      by_cases hlt : k < n
      · obtain ⟨p, off, rfl, hp, hc1⟩ := HX.out.addr (by omega)
        obtain ⟨q, of2, rfl, hq, hc2⟩ := HY.out.addr (by omega)
        obtain ⟨h1, p1, hk1⟩ := key_at (ks := us) (j := k) (by rw [← HN.out]; exact hlt)
        obtain ⟨h2, p2, hk2⟩ := key_at (ks := vs) (j := k) (by rw [← HE.out]; exact hlt)
        have c1 := (hc1 k _ hk1).1
        have c2 := (hc1 k _ hk1).2
        have c3 := (hc2 k _ hk2).1
        have c4 := (hc2 k _ hk2).2
        have HS : Hid ((h1, p1) = (h2, p2) → us.take (k + 1) = vs.take (k + 1)) := fun e => by rw [take_snocA hk1, take_snocA hk2, HT.out, e]
        have HD : Hid ((h1, p1) ≠ (h2, p2) → us ≠ vs) := fun h e => h (by rw [e, hk2] at hk1; simpa using hk1.symm)
        clear hc1 hc2 hp hq hk1 hk2
        simp only at c1 c2 c3 c4
        by_cases e1 : h1 = h2
        · by_cases e2 : p1 = p2
          · subst e1 e2
            have HS3 : Hid (us.take (k + 1) = vs.take (k + 1)) := HS.out rfl
            clear HS HD
            go_wp2_with fail
            go_quiet (fail)
            go_wp2
            go_roundw
            case rel => exact ⟨k + 1, by go_num, by omega, HS3, _, rfl⟩
            case measure => simp [intOf]; omega
          · have HD2 : Hid (us ≠ vs) := HD.out (fun e => e2 (by cases e; rfl))
            have hcmp : (p1 == p2) = false := by simpa using e2
            clear HS HD
            subst e1
            go_wp2_with fail
            go_quiet (fail)
            go_wp2
            go_ret
            exact ⟨ret_bool (decide_eq_false HD2.out).symm, _, World.drewN_drewN _ _ _⟩
        · have HD2 : Hid (us ≠ vs) := HD.out (fun e => e1 (by cases e; rfl))
          have hcmp : (h1 == h2) = false := by simpa using e1
          clear HS HD
          go_wp2_with fail
          go_quiet (fail)
          go_wp2
          go_ret
          exact ⟨ret_bool (decide_eq_false HD2.out).symm, _, World.drewN_drewN _ _ _⟩
      · have HA : Hid (us = vs) := by
          have h1 := HT.out
          have h2 := HN.out
          have h3 := HE.out
          rwa [List.take_of_length_le (by omega), List.take_of_length_le (by omega)] at h1
        go_wp2
        go_ret
        exact ⟨ret_bool (decide_eq_true HA.out).symm, _, rfl⟩
  · have HD : Hid (us ≠ vs) := fun e => hne (by rw [e])
    have hcmp : (((us.length : Nat) : Int) != (vs.length : Nat)) = true := by simp; omega
    clear hne hx hy
    generalize us.length = n at *
    generalize vs.length = m at *
    go_enter Tryz.func23, Tryz.ntmps23
    go_wp2
    go_ret
    exact ⟨ret_bool (decide_eq_false HD.out).symm, 0, rfl⟩
end Go.Proofs.YtjhkcdnfnmglhaaGreatDoor

/- Mapped pages in plain numbers; slices of them; the document's Same and Find. -/
namespace Go.Proofs.YtjhkcdnfnmglhaaGreatDoor
open Go.RowKit Go.ChangeShapes Go.WideShapes Go.Deep
set_option linter.unusedVariables false
set_option maxRecDepth 20000

/-- A mapped page: heap, page, slot, gen, sum. -/
structure Md where
  h : Int
  p : Int
  s : Int
  g : Int
  u : Nat
theorem md_inh : Nonempty (Inhabited Md) := ⟨⟨⟨0, 0, 0, 0, 0⟩⟩⟩
/-- Its key. -/
def Md.k (m : Md) : Ky := (m.h, m.p)
def encM (m : Md) : List Value := [.int .i64 m.h, .int .i64 m.p, .int .i64 m.s, .int .i64 m.g, .int .u32 (m.u : Nat)]
theorem encM_ok : EncOk encM 5 := ⟨fun _ => rfl, fun x v hv => by simp only [encM, List.mem_cons, List.not_mem_nil, or_false] at hv; rcases hv with rfl | rfl | rfl | rfl | rfl <;> rfl, by decide⟩
def MdI (m : Md) : Prop := I64 m.h ∧ I64 m.p ∧ I64 m.s ∧ I64 m.g ∧ m.u < 4294967296
theorem md_eta (m : Md) : (⟨m.h, m.p, m.s, m.g, m.u⟩ : Md) = m := rfl
/-- The cells of an element. -/
theorem Els.md {w : World} {a : Option Addr} {n cap : Nat} {xs : List Md} (h : Els encM 5 w (.slice a n cap) xs) (h0 : 0 < n) : ∃ b off, a = some ⟨b, off, none⟩ ∧ b < w.heap.size ∧ ∀ j y, xs[j]? = some y →
    w.cell? ⟨b, off + j * 5, none⟩ = some (.int .i64 y.h) ∧ w.cell? ⟨b, off + j * 5 + 1, none⟩ = some (.int .i64 y.p) ∧ w.cell? ⟨b, off + j * 5 + 2, none⟩ = some (.int .i64 y.s) ∧ w.cell? ⟨b, off + j * 5 + 3, none⟩ = some (.int .i64 y.g) ∧ w.cell? ⟨b, off + j * 5 + 4, none⟩ = some (.int .u32 (y.u : Nat)) := by
  obtain ⟨b, off, rfl, hb, hc⟩ := h.addr h0
  exact ⟨b, off, rfl, hb, fun j y hj => ⟨hc j y hj 0 _ rfl, hc j y hj 1 _ rfl, hc j y hj 2 _ rfl, hc j y hj 3 _ rfl, hc j y hj 4 _ rfl⟩⟩
set_option maxRecDepth 20000 in
theorem open_mds {H : Type} {tok : TypeId × Value → H} {w : World} {base : Nat} {held : Bool} {a : Option Addr} {len cap : Nat} {d : DataW H} {p : List MemPlace}
    (h : DataW.Trod tok Tryz.prog w base (fun _ => true) held 22 (.slice a len cap) d p) : ∃ xs, Els encM 5 w (.slice a len cap) xs ∧ ∀ y ∈ xs, MdI y := by
  haveI : Inhabited Md := ⟨⟨0, 0, 0, 0, 0⟩⟩
  refine open_els encM_ok MdI Tryz.underlying22 (by kernel_rfl) ?_ h
  intro n cs x hl hx
  match cs, hl with
  | [v0, v1, v2, v3, v4], _ =>
    obtain ⟨z0, z1, n1, _, _, k0, k1⟩ := trod_struct2 Tryz.underlying56 hx
    have k0' : DataW.trod tok Tryz.prog w base (fun _ => true) held n1 32 [v0, v1] = some z0 := k0
    have k1' : DataW.trod tok Tryz.prog w base (fun _ => true) held n1 37 [v2, v3, v4] = some z1 := k1
    obtain ⟨a0, a1, n2, _, _, l0, l1⟩ := trod_struct2 Tryz.underlying32 k0'
    have l0' : DataW.trod tok Tryz.prog w base (fun _ => true) held n2 3 [v0] = some a0 := l0
    have l1' : DataW.trod tok Tryz.prog w base (fun _ => true) held n2 3 [v1] = some a1 := l1
    obtain ⟨b0, b1, b2, n3, _, _, m0, m1, m2⟩ := trod_struct3 Tryz.underlying37 k1'
    have m0' : DataW.trod tok Tryz.prog w base (fun _ => true) held n3 3 [v2] = some b0 := m0
    have m1' : DataW.trod tok Tryz.prog w base (fun _ => true) held n3 3 [v3] = some b1 := m1
    have m2' : DataW.trod tok Tryz.prog w base (fun _ => true) held n3 33 [v4] = some b2 := m2
    obtain ⟨i0, e0, _, w0⟩ := DataW.trod_int Tryz.underlying3 l0'
    obtain ⟨i1, e1, _, w1⟩ := DataW.trod_int Tryz.underlying3 l1'
    obtain ⟨i2, e2, _, w2⟩ := DataW.trod_int Tryz.underlying3 m0'
    obtain ⟨i3, e3, _, w3⟩ := DataW.trod_int Tryz.underlying3 m1'
    obtain ⟨i4, e4, _, w4⟩ := DataW.trod_int Tryz.underlying33 m2'
    simp at e0 e1 e2 e3 e4
    subst e0 e1 e2 e3 e4
    have hw4 : 0 ≤ i4 ∧ i4 ≤ 4294967295 := by simpa [Lit.wf, IntKind.min, IntKind.max, IntKind.signed, IntKind.bits] using w4
    obtain ⟨u, rfl⟩ : ∃ u : Nat, i4 = (u : Int) := ⟨i4.toNat, by rw [Int.toNat_of_nonneg]; omega⟩
    refine ⟨⟨i0, i1, i2, i3, u⟩, rfl, ?_, ?_, ?_, ?_, by simp only; omega⟩
    · simpa [Lit.wf, IntKind.min, IntKind.max, IntKind.signed, IntKind.bits, I64] using w0
    · simpa [Lit.wf, IntKind.min, IntKind.max, IntKind.signed, IntKind.bits, I64] using w1
    · simpa [Lit.wf, IntKind.min, IntKind.max, IntKind.signed, IntKind.bits, I64] using w2
    · simpa [Lit.wf, IntKind.min, IntKind.max, IntKind.signed, IntKind.bits, I64] using w3
theorem md_at {xs : List Md} {j : Nat} (h : j < xs.length) : ∃ h' p' s' g' u', xs[j]? = some ⟨h', p', s', g', u'⟩ := ⟨_, _, _, _, _, List.getElem?_eq_getElem h⟩

/-! ### Same, of two lists that are one -/
set_option maxRecDepth 20000 in
set_option maxHeartbeats 1000000 in
theorem same11_any (w : World) (x y : Value) (us : List Md) (hx : Els encM 5 w x us) (hy : Els encM 5 w y us) :
    Calls Tryz.prog 20 #[x, y] w fun e w' => e = .returned (.bool true) ∧ ∃ m, w' = w.drewN m := by
  obtain ⟨a, ca, rfl⟩ := hx.shape
  obtain ⟨b, cb, rfl⟩ := hy.shape
  have hl : us.length ≤ 9223372036854775807 := by have := hx.1; unfold maxLen at this; omega
  have HX : Hid (Els encM 5 w (.slice a us.length ca) us) := hx
  have HY : Hid (Els encM 5 w (.slice b us.length cb) us) := hy
  clear hx hy
  obtain ⟨n, hn⟩ : ∃ n, n = us.length := ⟨_, rfl⟩
  rw [← hn] at HX HY hl ⊢
  have HN : Hid (n = us.length) := hn
  clear hn
  go_enter Tryz.func20, Tryz.ntmps20
  go_wp2_with fail
  go_loopw [5] (fun i wr => ∃ k : Nat, i = .int .i64 (k : Nat) ∧ k ≤ n ∧ ∃ m, wr = w.drewN m) (fun i _ => n - (intOf i).toNat)
  case atStart => exact ⟨0, rfl, Nat.zero_le _, 0, rfl⟩
  case round =>
    obtain ⟨k, rfl, hk, m, rfl⟩ := hrel
    by_cases hlt : k < n
    · obtain ⟨p, off, rfl, hp, hc1⟩ := HX.out.md (by omega)
      obtain ⟨q, of2, rfl, hq, hc2⟩ := HY.out.md (by omega)
      obtain ⟨h1, p1, s1, g1, u1, hk1⟩ := md_at (xs := us) (j := k) (by rw [← HN.out]; exact hlt)
      obtain ⟨c0, c1, c2, c3, c4⟩ := hc1 k _ hk1
      obtain ⟨d0, d1, d2, d3, d4⟩ := hc2 k _ hk1
      clear hc1 hc2 hp hq hk1
      go_wp2_with fail
      go_quiet (fail)
      go_wp2
      go_roundw
      case rel => exact ⟨k + 1, by go_num, by omega, _, rfl⟩
      case measure => simp [intOf]; omega
    · go_wp2
      go_ret
      exact ⟨rfl, _, rfl⟩

/-! ### Find -/
/-- A key's entry. -/
def findM : List Md → Ky → Option (Int × Int × Nat)
  | [], _ => none
  | m :: r, k => if m.k = k then some (m.s, m.g, m.u) else findM r k
theorem findM_append (l r : List Md) (k : Ky) (h : findM l k = none) : findM (l ++ r) k = findM r k := by
  induction l with
  | nil => rfl
  | cons x t ih =>
    unfold findM at h
    split at h
    · cases h
    · rename_i hx
      rw [List.cons_append, findM, if_neg hx]
      exact ih h
theorem findM_snoc_no {l : List Md} {j : Nat} {m : Md} {k : Ky} (hj : l[j]? = some m) (h : findM (l.take j) k = none) (hne : m.k ≠ k) : findM (l.take (j + 1)) k = none := by
  rw [take_snocA hj, findM_append _ _ _ h, findM, if_neg hne]
  rfl
theorem findM_hit {l : List Md} {j : Nat} {m : Md} {k : Ky} (hj : l[j]? = some m) (h : findM (l.take j) k = none) (he : m.k = k) : findM l k = some (m.s, m.g, m.u) := by
  have hl := (List.getElem?_eq_some_iff.1 hj).1
  have e : l = l.take j ++ m :: l.drop (j + 1) := by
    have h2 := List.getElem?_eq_getElem hl
    rw [hj, Option.some.injEq] at h2
    rw [h2, ← List.drop_eq_getElem_cons hl, List.take_append_drop]
  rw [e, findM_append _ _ _ h, findM, if_pos he]
/-- What Find answers. -/
def entV (o : Option (Int × Int × Nat)) : Value := .agg #[.int .i64 (o.getD (0, 0, 0)).1, .int .i64 (o.getD (0, 0, 0)).2.1, .int .u32 ((o.getD (0, 0, 0)).2.2 : Nat)]
theorem Tryz.sizeE11 : (Tryz.prog.info? 37).map (·.size) = some 3 := by kernel_rfl
theorem load_ent {w : World} {b : Nat} {s g u : Int} (c0 : w.cell? ⟨b, 0, none⟩ = some (.int .i64 s)) (c1 : w.cell? ⟨b, 1, none⟩ = some (.int .i64 g)) (c2 : w.cell? ⟨b, 2, none⟩ = some (.int .u32 u)) : (loadVar 37 ⟨b, 0, none⟩).run Tryz.prog w = .ok (.agg #[.int .i64 s, .int .i64 g, .int .u32 u]) w :=
  run_loadVar_mid (P := Tryz.prog) _ b 0 37 [.int .i64 s, .int .i64 g, .int .u32 u] _ (fun j v hv => by
    rw [Nat.zero_add]
    match j, hv with
    | 0, hv => simp at hv; subst hv; exact c0
    | 1, hv => simp at hv; subst hv; exact c1
    | 2, hv => simp at hv; subst hv; exact c2
    | j + 3, hv => simp at hv) Tryz.underlying37 rfl Tryz.sizeE11
theorem set_three {w : World} {b : Nat} {u v t : Value} (x y z : Value) (h0 : w.cell? ⟨b, 0, none⟩ = some u) (h1 : w.cell? ⟨b, 1, none⟩ = some v) (h2 : w.cell? ⟨b, 2, none⟩ = some t) :
    (((w.setCell ⟨b, 0, none⟩ x).setCell ⟨b, 1, none⟩ y).setCell ⟨b, 2, none⟩ z).cell? ⟨b, 0, none⟩ = some x ∧ (((w.setCell ⟨b, 0, none⟩ x).setCell ⟨b, 1, none⟩ y).setCell ⟨b, 2, none⟩ z).cell? ⟨b, 1, none⟩ = some y ∧ (((w.setCell ⟨b, 0, none⟩ x).setCell ⟨b, 1, none⟩ y).setCell ⟨b, 2, none⟩ z).cell? ⟨b, 2, none⟩ = some z := by
  have n1 : (⟨b, 1, none⟩ : Addr) ≠ ⟨b, 0, none⟩ := by simp
  have n2 : (⟨b, 2, none⟩ : Addr) ≠ ⟨b, 0, none⟩ := by simp
  have n3 : (⟨b, 2, none⟩ : Addr) ≠ ⟨b, 1, none⟩ := by simp
  have m1 : (⟨b, 0, none⟩ : Addr) ≠ ⟨b, 1, none⟩ := by simp
  have m2 : (⟨b, 0, none⟩ : Addr) ≠ ⟨b, 2, none⟩ := by simp
  have m3 : (⟨b, 1, none⟩ : Addr) ≠ ⟨b, 2, none⟩ := by simp
  have k1 : (w.setCell ⟨b, 0, none⟩ x).cell? ⟨b, 1, none⟩ = some v := by rw [World.cell?_setCell_other (h := m1)]; exact h1
  have k2 : ((w.setCell ⟨b, 0, none⟩ x).setCell ⟨b, 1, none⟩ y).cell? ⟨b, 2, none⟩ = some t := by rw [World.cell?_setCell_other (h := m3), World.cell?_setCell_other (h := m2)]; exact h2
  refine ⟨?_, ?_, World.cell?_setCell_same _ _ z k2⟩
  · rw [World.cell?_setCell_other (h := n2), World.cell?_setCell_other (h := n1), World.cell?_setCell_same (h := h0)]
  · rw [World.cell?_setCell_other (h := n3)]
    exact World.cell?_setCell_same _ _ y k1
theorem new_frozen (V : World) (c : Array Value) (t : TypeId) (i : Nat) : (V.alloc (.cells c t)).frozen? ⟨V.heap.size, i, none⟩ = false := by simp
theorem new_three (V : World) (u v z : Value) (t : TypeId) : (V.alloc (.cells #[u, v, z] t)).cell? ⟨V.heap.size, 0, none⟩ = some u ∧ (V.alloc (.cells #[u, v, z] t)).cell? ⟨V.heap.size, 1, none⟩ = some v ∧ (V.alloc (.cells #[u, v, z] t)).cell? ⟨V.heap.size, 2, none⟩ = some z :=
  ⟨by simp, by simp, by simp⟩
set_option maxRecDepth 20000 in
set_option maxHeartbeats 2000000 in
theorem refFind11_any (w : World) (x : Value) (l : List Md) (h p : Int) (hx : Els encM 5 w x l) :
    Calls Tryz.prog 36 #[x, .agg #[.int .i64 h, .int .i64 p]] w fun e w' => e = .returned (.tuple #[entV (findM l (h, p)), .bool (findM l (h, p)).isSome]) ∧ Below w.heap.size w w' := by
  obtain ⟨a, ca, rfl⟩ := hx.shape
  have hl : l.length ≤ 9223372036854775807 := by have := hx.1; unfold maxLen at this; omega
  obtain ⟨n, hn⟩ : ∃ n, n = l.length := ⟨_, rfl⟩
  rw [← hn] at hx hl ⊢
  have HN : Hid (n = l.length) := hn
  have HX : Hid (Els encM 5 w (.slice a n ca) l) := hx
  clear hn hx
  go_enter Tryz.func36, Tryz.ntmps36
  go_wp2_with fail
  obtain ⟨W0, hW⟩ : ∃ W0, W0 = (w.alloc (.cells #[.int .i64 h, .int .i64 p] 32)).alloc (.cells #[.int .i64 0, .int .i64 0, .int .u32 0] 37) := ⟨_, rfl⟩
  have hs : (w.alloc (.cells #[.int .i64 h, .int .i64 p] 32)).heap.size = w.heap.size + 1 := by simp
  have HB0 : Hid (Below w.heap.size w W0) := by rw [hW]; exact ((Below.refl _ _).alloc (Nat.le_refl _) _).alloc (by simp) _
  have d0 : W0.cell? ⟨w.heap.size, 0, none⟩ = some (.int .i64 h) := by rw [hW]; simp
  have d1 : W0.cell? ⟨w.heap.size, 1, none⟩ = some (.int .i64 p) := by rw [hW]; simp
  have hn3 := new_three (w.alloc (.cells #[.int .i64 h, .int .i64 p] 32)) (.int .i64 0) (.int .i64 0) (.int .u32 0) 37
  rw [hs, ← hW] at hn3
  obtain ⟨e0, e1, e2⟩ := hn3
  have hfr := new_frozen (w.alloc (.cells #[.int .i64 h, .int .i64 p] 32)) #[.int .i64 0, .int .i64 0, .int .u32 0] 37
  rw [hs, ← hW] at hfr
  have g0 := hfr 0
  have g1 := hfr 1
  have g2 := hfr 2
  clear hfr
  have HX0 : Hid (Els encM 5 W0 (.slice a n ca) l) := HX.out.kept HB0.out
  rw [← hW]
  clear hW hs HX
  go_loopw [6] (fun i wr => ∃ k : Nat, i = .int .i64 (k : Nat) ∧ k ≤ n ∧ Hid (findM (l.take k) (h, p) = none) ∧ ∃ m, wr = W0.drewN m) (fun i _ => n - (intOf i).toNat)
  case atStart => exact ⟨0, rfl, Nat.zero_le _, rfl, 0, rfl⟩
  case round =>
    obtain ⟨k, rfl, hk, HT, m, rfl⟩ := hrel
    by_cases hlt : k < n
    · obtain ⟨b, off, rfl, hb, hc⟩ := HX0.out.md (by omega)
      obtain ⟨h', p', s', u', v', hkk⟩ := md_at (xs := l) (j := k) (by rw [← HN.out]; exact hlt)
      obtain ⟨c0, c1, c2, c3, c4⟩ := hc k _ hkk
      have HNO : Hid ((h', p') ≠ (h, p) → findM (l.take (k + 1)) (h, p) = none) := fun hne => findM_snoc_no hkk HT.out hne
      have HIT : Hid ((h', p') = (h, p) → findM l (h, p) = some (s', u', v')) := fun he => findM_hit hkk HT.out he
      clear hc hb hkk HT
      simp only at c0 c1 c2 c3 c4
      by_cases q1 : h' = h
      · by_cases q2 : p' = p
        · subst q1 q2
          have HE : Hid (findM l (h', p') = some (s', u', v')) := HIT.out rfl
          clear HIT HNO
          go_wp2_with fail
          go_quiet (fail)
          go_wp2
          refine bodyPost_ret (v := .tuple #[.agg #[.int .i64 _, .int .i64 _, .int .u32 _], .bool _]) (results_cell2 rfl rfl rfl (load_ent (set_three _ _ _ e0 e1 e2).1 (set_three _ _ _ e0 e1 e2).2.1 (set_three _ _ _ e0 e1 e2).2.2)) rfl ⟨by rw [HE.out]; rfl, ?_⟩
          exact (((HB0.out.trans ((below_dr W0 _).mono HB0.out.size)).setCell (Nat.le_succ _) _).setCell (Nat.le_succ _) _).setCell (Nat.le_succ _) _
        · have HT2 : Hid (findM (l.take (k + 1)) (h, p) = none) := HNO.out (fun e => q2 (by cases e; rfl))
          have hne : (p' == p) = false := by simpa using q2
          clear HIT HNO
          subst q1
          go_wp2_with fail
          go_quiet (fail)
          go_wp2
          go_roundw
          case rel => exact ⟨k + 1, by go_num, by omega, HT2, _, rfl⟩
          case measure => simp [intOf]; omega
      · have HT2 : Hid (findM (l.take (k + 1)) (h, p) = none) := HNO.out (fun e => q1 (by cases e; rfl))
        have hne : (h' == h) = false := by simpa using q1
        clear HIT HNO
        go_wp2_with fail
        go_quiet (fail)
        go_wp2
        go_roundw
        case rel => exact ⟨k + 1, by go_num, by omega, HT2, _, rfl⟩
        case measure => simp [intOf]; omega
    · have HE : Hid (findM l (h, p) = none) := by
        have h1 := HT.out
        rwa [List.take_of_length_le (by rw [← HN.out]; omega)] at h1
      go_wp2
      refine bodyPost_ret (v := .tuple #[.agg #[.int .i64 _, .int .i64 _, .int .u32 _], .bool _]) (results_cell2 rfl rfl rfl (load_ent (set_three _ _ _ e0 e1 e2).1 (set_three _ _ _ e0 e1 e2).2.1 (set_three _ _ _ e0 e1 e2).2.2)) rfl ⟨by rw [HE.out]; rfl, ?_⟩
      exact (((HB0.out.trans ((below_dr W0 _).mono HB0.out.size)).setCell (Nat.le_succ _) _).setCell (Nat.le_succ _) _).setCell (Nat.le_succ _) _
end Go.Proofs.YtjhkcdnfnmglhaaGreatDoor

/- Number and Of of package key, Less of the document. -/
namespace Go.Proofs.YtjhkcdnfnmglhaaGreatDoor
open Go.RowKit
set_option linter.unusedVariables false
set_option maxRecDepth 20000

theorem or_low (x y : Nat) (hx : x < 4096) (hy : y ≤ 64) : bits .or .i64 (4096 * y : Nat) (x : Nat) = ((4096 * y + x : Nat) : Int) := by
  show IntKind.i64.wrap ((BitVec.ofInt 64 ((4096 * y : Nat) : Int) ||| BitVec.ofInt 64 ((x : Nat) : Int)).toNat : Int) = _
  have hx' : x < 2 ^ 12 := hx
  have hy' : 4096 * y = 2 ^ 12 * y := rfl
  rw [BitVec.toNat_or, BitVec.ofInt_natCast, BitVec.ofInt_natCast, BitVec.toNat_ofNat, BitVec.toNat_ofNat, Nat.mod_eq_of_lt (by omega), Nat.mod_eq_of_lt (by omega), hy']
  rw [← Nat.two_pow_add_eq_or_of_lt hx', IntKind.wrap_i64]
  omega

theorem number_any (h p : Int) (w : World) :
    Calls Tryz.prog 54 #[.agg #[.int .i64 h, .int .i64 p]] w fun e w' => e = .returned (.int .i64 (numK (h, p))) ∧ Below w.heap.size w w' := by
  have HR : Hid (∀ W, Calls Tryz.prog 32 #[.agg #[.int .i64 h, .int .i64 p]] W fun e w' => e = .returned (.bool (isR (h, p))) ∧ Below W.heap.size W w') := right_any h p
  by_cases hr : isR (h, p) = true
  · have HN : Hid (numK (h, p) = 4096 * h + p) := by unfold Hid numK; rw [if_pos hr]
    rw [hr] at HR
    obtain ⟨b1, b2, b3, b4⟩ := isR_iff.1 hr
    simp only at b1 b2 b3 b4
    clear hr
    obtain ⟨H, rfl⟩ : ∃ H : Nat, h = (H : Int) := ⟨h.toNat, by rw [Int.toNat_of_nonneg]; omega⟩
    obtain ⟨Q, rfl⟩ : ∃ Q : Nat, p = (Q : Int) := ⟨p.toNat, by rw [Int.toNat_of_nonneg]; omega⟩
    have hH : H ≤ 64 := by omega
    have hQ : Q < 4096 := by omega
    have HO : Hid (bits .or .i64 (4096 * H : Nat) (Q : Nat) = ((4096 * H + Q : Nat) : Int)) := or_low Q H hQ hH
    have hs : ((H : Nat) : Int) * 4096 = ((4096 * H : Nat) : Int) := by omega
    obtain ⟨M, hM⟩ : ∃ M, M = 4096 * H := ⟨_, rfl⟩
    rw [← hM] at HO hs
    have hMb : M ≤ 262144 := by omega
    have HM : Hid (M = 4096 * H) := hM
    clear hM
    go_enter Tryz.func54, Tryz.ntmps54
    go_wp2_with fail
    refine (HR.out _).mono ?_
    rintro e w1 ⟨rfl, hB⟩
    have c0 : w1.cell? ⟨w.heap.size, 0, none⟩ = some (.int .i64 (H : Nat)) := (hB.cell (p := ⟨w.heap.size, 0, none⟩) (by simp)).trans (by simp)
    have c1 : w1.cell? ⟨w.heap.size, 1, none⟩ = some (.int .i64 (Q : Nat)) := (hB.cell (p := ⟨w.heap.size, 1, none⟩) (by simp)).trans (by simp)
    have HB : Hid (Below w.heap.size w w1) := ((Below.refl _ _).alloc (Nat.le_refl _) _).trans (hB.mono (by simp))
    clear hB HR
    go_wp2
    go_ret
    refine ⟨ret_int ?_, HB.out⟩
    rw [HN.out]
    have h1 := HO.out
    have h2 := HM.out
    first
      | (rw [h1]; omega)
      | (simp only [hs, h1]; omega)
      | trace_state
  · have HN : Hid (numK (h, p) = 0) := by unfold Hid numK; rw [if_neg hr]
    rw [Bool.eq_false_iff.2 hr] at HR
    clear hr
    go_enter Tryz.func54, Tryz.ntmps54
    go_wp2_with fail
    refine (HR.out _).mono ?_
    rintro e w1 ⟨rfl, hB⟩
    have HB : Hid (Below w.heap.size w w1) := ((Below.refl _ _).alloc (Nat.le_refl _) _).trans (hB.mono (by simp))
    clear hB HR
    go_wp2
    go_ret
    exact ⟨ret_int HN.out.symm, HB.out⟩

/-- The key of a number. -/
def ofK (n : Int) : Ky := if isR (n / 4096, n % 4096) = true then (n / 4096, n % 4096) else (0, 0)
/-! ### Less -/
def ltK (a b : Ky) : Bool := decide (KLt a b)
theorem refLess_any (a b c d : Int) (w : World) :
    Calls Tryz.prog 59 #[.agg #[.int .i64 a, .int .i64 b], .agg #[.int .i64 c, .int .i64 d]] w fun e w' => e = .returned (.bool (ltK (a, b) (c, d))) ∧ Below w.heap.size w w' := by
  by_cases h1 : a < c
  · have HK : Hid (ltK (a, b) (c, d) = true) := decide_eq_true (.inl h1)
    go_enter Tryz.func59, Tryz.ntmps59
    go_wp2
    go_ret
    exact ⟨ret_bool HK.out.symm, ((Below.refl _ _).alloc (Nat.le_refl _) _).alloc (by simp) _⟩
  · have h1' : (a < c) = False := eq_false h1
    by_cases h2 : a = c
    · subst h2
      by_cases h3 : b < d
      · have HK : Hid (ltK (a, b) (a, d) = true) := decide_eq_true (.inr ⟨rfl, h3⟩)
        go_enter Tryz.func59, Tryz.ntmps59
        go_wp2
        go_ret
        exact ⟨ret_bool HK.out.symm, ((Below.refl _ _).alloc (Nat.le_refl _) _).alloc (by simp) _⟩
      · have HK : Hid (ltK (a, b) (a, d) = false) := decide_eq_false (by unfold KLt; simp; omega)
        have h3' : (b < d) = False := eq_false h3
        go_enter Tryz.func59, Tryz.ntmps59
        go_wp2
        go_ret
        exact ⟨ret_bool HK.out.symm, ((Below.refl _ _).alloc (Nat.le_refl _) _).alloc (by simp) _⟩
    · have HK : Hid (ltK (a, b) (c, d) = false) := decide_eq_false (by unfold KLt; simp; omega)
      have h2' : (a == c) = false := by simpa using h2
      go_enter Tryz.func59, Tryz.ntmps59
      go_wp2
      go_ret
      exact ⟨ret_bool HK.out.symm, ((Below.refl _ _).alloc (Nat.le_refl _) _).alloc (by simp) _⟩
end Go.Proofs.YtjhkcdnfnmglhaaGreatDoor

/- The document's Right of lists of mapped pages. -/
namespace Go.Proofs.YtjhkcdnfnmglhaaGreatDoor
open Go.RowKit
set_option linter.unusedVariables false
set_option maxRecDepth 20000

/-- A mapped page is right for so many slots. -/
def okM (n : Int) (m : Md) : Bool := isR m.k && decide (0 ≤ m.s ∧ m.s < n ∧ 1 ≤ m.g ∧ m.g ≤ 281474976710655)
/-- It stands in order behind the one ahead. -/
def aheadM (l : List Md) (j : Nat) (m : Md) : Bool := match j with
  | 0 => true
  | i + 1 => match l[i]? with
    | some q => ltK q.k m.k
    | none => true
def freshM (pre : List Md) (m : Md) : Bool := pre.all fun q => decide (q.s ≠ m.s)
def stepM (n : Int) (l : List Md) (j : Nat) : Bool := match l[j]? with
  | some m => okM n m && aheadM l j m && freshM (l.take j) m
  | none => true
/-- The list is right. -/
def rightM (n : Int) (l : List Md) : Bool := (List.range l.length).all fun j => stepM n l j
theorem rightM_no {n : Int} {l : List Md} {j : Nat} (hj : j < l.length) (h : stepM n l j = false) : rightM n l = false := by
  unfold rightM
  rw [List.all_eq_false]
  exact ⟨j, List.mem_range.2 hj, by simp [h]⟩
theorem rightM_yes {n : Int} {l : List Md} (h : ∀ j, j < l.length → stepM n l j = true) : rightM n l = true := by
  unfold rightM
  rw [List.all_eq_true]
  exact fun j hj => h j (List.mem_range.1 hj)
theorem stepM_at {n : Int} {l : List Md} {j : Nat} {m : Md} (h : l[j]? = some m) : stepM n l j = (okM n m && aheadM l j m && freshM (l.take j) m) := by
  unfold stepM
  rw [h]
theorem fresh_snoc {pre : List Md} {q m : Md} : freshM (pre ++ [q]) m = (freshM pre m && decide (q.s ≠ m.s)) := by simp [freshM]
theorem fresh_hit {l : List Md} {j k : Nat} {q m : Md} (hj : l[j]? = some q) (hk : j < k) (e : q.s = m.s) : freshM (l.take k) m = false := by
  unfold freshM
  rw [List.all_eq_false]
  refine ⟨q, ?_, by simp [e]⟩
  exact List.mem_of_getElem? (i := j) (by rw [List.getElem?_take_of_lt hk]; exact hj)
theorem new_five (V : World) (a b c d e : Value) (t : TypeId) : (V.alloc (.cells #[a, b, c, d, e] t)).cell? ⟨V.heap.size, 0, none⟩ = some a ∧ (V.alloc (.cells #[a, b, c, d, e] t)).cell? ⟨V.heap.size, 1, none⟩ = some b ∧ (V.alloc (.cells #[a, b, c, d, e] t)).cell? ⟨V.heap.size, 2, none⟩ = some c ∧ (V.alloc (.cells #[a, b, c, d, e] t)).cell? ⟨V.heap.size, 3, none⟩ = some d ∧ (V.alloc (.cells #[a, b, c, d, e] t)).cell? ⟨V.heap.size, 4, none⟩ = some e :=
  ⟨by simp, by simp, by simp, by simp, by simp⟩
theorem Tryz.mixed11 : Tryz.prog.follows .mixedOrders = true := by kernel_rfl
set_option maxRecDepth 20000 in
set_option maxHeartbeats 1600000 in
theorem refRight11_any (w : World) (x : Value) (l : List Md) (n : Int) (hx : Els encM 5 w x l) (hl0 : l.length ≤ 1000) :
    Calls Tryz.prog 30 #[.int .i64 n, x] w fun e w' => e = .returned (.bool (rightM n l)) ∧ Below w.heap.size w w' := by
  obtain ⟨a, ca, rfl⟩ := hx.shape
  obtain ⟨L, hn⟩ : ∃ L, L = l.length := ⟨_, rfl⟩
  rw [← hn] at hx hl0 ⊢
  have HN : Hid (L = l.length) := hn
  have HX : Hid (Els encM 5 w (.slice a L ca) l) := hx
  clear hn hx
  go_enter Tryz.func30, Tryz.ntmps30
  go_wp2_with fail
  go_loopw [5] (fun i wr => ∃ k : Nat, i = .int .i64 (k : Nat) ∧ k ≤ L ∧ Hid (∀ j, j < k → stepM n l j = true) ∧ Hid (Below w.heap.size w wr)) (fun i _ => L - (intOf i).toNat)
  case atStart => exact ⟨0, rfl, Nat.zero_le _, fun j hj => absurd hj (by omega), Below.refl _ _⟩
  case round =>
    obtain ⟨k, rfl, hk, HT, HB⟩ := hrel
    by_cases hlt : k < L
    · obtain ⟨b, off, rfl, hb, hc⟩ := (HX.out.kept HB.out).md (by omega)
      obtain ⟨mh, mp, ms, mg, mu, hkk⟩ := md_at (xs := l) (j := k) (by rw [← HN.out]; exact hlt)
      have hck := hc k _ hkk
      obtain ⟨c0, c1, c2, c3, c4⟩ := hck
      have HST : Hid (stepM n l k = (okM n ⟨mh, mp, ms, mg, mu⟩ && aheadM l k ⟨mh, mp, ms, mg, mu⟩ && freshM (l.take k) ⟨mh, mp, ms, mg, mu⟩)) := stepM_at hkk
      have HLK : Hid (k < l.length) := by rw [← HN.out]; exact hlt
      obtain ⟨W0, hW⟩ : ∃ W0, W0 = wr.alloc (.cells #[.int .i64 mh, .int .i64 mp, .int .i64 ms, .int .i64 mg, .int .u32 (mu : Nat)] 56) := ⟨_, rfl⟩
      obtain ⟨X, hXX⟩ : ∃ X, X = wr.heap.size := ⟨_, rfl⟩
      have hn5 := new_five wr (.int .i64 mh) (.int .i64 mp) (.int .i64 ms) (.int .i64 mg) (.int .u32 (mu : Nat)) 56
      rw [← hW, ← hXX] at hn5
      obtain ⟨d0, d1, d2, d3, d4⟩ := hn5
      have HB0 : Hid (Below w.heap.size w W0) := by rw [hW]; exact HB.out.alloc HB.out.size _
      have HRI : Hid (Calls Tryz.prog 35 #[.agg #[.int .i64 mh, .int .i64 mp]] W0 fun e w' => e = .returned (.bool (isR (mh, mp))) ∧ Below W0.heap.size W0 w') := refRight_any mh mp W0
      have HOK : Hid (okM n ⟨mh, mp, ms, mg, mu⟩ = (isR (mh, mp) && decide (0 ≤ ms ∧ ms < n ∧ 1 ≤ mg ∧ mg ≤ 281474976710655))) := rfl
      obtain ⟨RA, hRA⟩ : ∃ RA, isR (mh, mp) = RA := ⟨_, rfl⟩
      rw [hRA] at HRI HOK
      clear hRA hc hb hkk
      go_wp2_with fail
      rw [← hW]
      have HDK : Hid (∀ W, Below W0.heap.size W0 W → W.cell? ⟨X, 0, none⟩ = some (.int .i64 mh) ∧ W.cell? ⟨X, 1, none⟩ = some (.int .i64 mp) ∧ W.cell? ⟨X, 2, none⟩ = some (.int .i64 ms) ∧ W.cell? ⟨X, 3, none⟩ = some (.int .i64 mg)) := fun W hW => ⟨(hW.cell (block_lt_of_cell d0)).trans d0, (hW.cell (block_lt_of_cell d1)).trans d1, (hW.cell (block_lt_of_cell d2)).trans d2, (hW.cell (block_lt_of_cell d3)).trans d3⟩
      try rw [← hXX]
      clear hW hXX
      have HNO : Hid (stepM n l k = false → rightM n l = false) := fun h => rightM_no HLK.out h
      have HCL : Hid (∀ W, Below w.heap.size w W → ∀ j y, l[j]? = some y → W.cell? ⟨b, off + j * 5, none⟩ = some (.int .i64 y.h) ∧ W.cell? ⟨b, off + j * 5 + 1, none⟩ = some (.int .i64 y.p) ∧ W.cell? ⟨b, off + j * 5 + 2, none⟩ = some (.int .i64 y.s) ∧ W.cell? ⟨b, off + j * 5 + 3, none⟩ = some (.int .i64 y.g)) := fun W hW j y hj => by
        obtain ⟨b', off', e, hb', hcc⟩ := (HX.out.kept hW).md (by omega)
        simp only [Option.some.injEq, Addr.mk.injEq, and_true] at e
        obtain ⟨rfl, rfl⟩ := e
        have h := hcc j y hj
        exact ⟨h.1, h.2.1, h.2.2.1, h.2.2.2.1⟩
      refine HRI.out.mono ?_
      rintro e w1 ⟨rfl, hB1⟩
      obtain ⟨f0, f1, f2, f3⟩ := HDK.out w1 hB1
      have HB1 : Hid (Below w.heap.size w w1) := HB0.out.trans (hB1.mono HB0.out.size)
      clear hB1 HRI HDK d0 d1 d2 d3 d4 c0 c1 c2 c3 c4 HB0 HB
      cases RA
      · have HF : Hid (rightM n l = false) := HNO.out (by rw [HST.out, HOK.out]; rfl)
        clear HST HOK HNO
        go_wp2_with fail
        go_ret
        exact ⟨ret_bool HF.out.symm, HB1.out⟩
      · by_cases p1 : ms < 0
        · have HF : Hid (rightM n l = false) := HNO.out (by rw [HST.out, HOK.out]; simp; omega)
          clear HST HOK HNO
          go_wp2_with fail
          go_ret
          exact ⟨ret_bool HF.out.symm, HB1.out⟩
        by_cases p2 : n ≤ ms
        · have HF : Hid (rightM n l = false) := HNO.out (by rw [HST.out, HOK.out]; simp; omega)
          clear HST HOK HNO
          go_wp2_with fail
          go_ret
          exact ⟨ret_bool HF.out.symm, HB1.out⟩
        by_cases p3 : mg < 1
        · have HF : Hid (rightM n l = false) := HNO.out (by rw [HST.out, HOK.out]; simp; omega)
          clear HST HOK HNO
          go_wp2_with fail
          go_ret
          exact ⟨ret_bool HF.out.symm, HB1.out⟩
        by_cases p4 : 281474976710655 < mg
        · have HF : Hid (rightM n l = false) := HNO.out (by rw [HST.out, HOK.out]; simp; omega)
          clear HST HOK HNO
          go_wp2_with fail
          go_ret
          exact ⟨ret_bool HF.out.symm, HB1.out⟩
        have HOKT : Hid (okM n ⟨mh, mp, ms, mg, mu⟩ = true) := by rw [HOK.out]; simp [Hid]; omega
        clear HOK
        by_cases hk0 : k = 0
        · subst hk0
          have HAH : Hid (aheadM l 0 ⟨mh, mp, ms, mg, mu⟩ = true) := rfl
          have hcall : True := trivial
          go_wp2_with fail
          refine wp_region_quiet_below Tryz.mixed11 (by kernel_rfl) ?_
          generalize hA : Act.mk _ _ = fr9
          repeat (refine wpQuiet_step (fun K hK => ?_); subst hA; go_simp; generalize hA : Act.mk _ _ = fr9; refine hK _ ?_; clear hK K)
          refine wpQuiet_nil ?_
          subst hA
          intro _ hw'
          obtain ⟨⟨dq, osq⟩, hw''⟩ := hw'
          subst hw''
          dsimp only
          have HB4 : Hid (Below w.heap.size w (Sort.grow (redrawn w1 dq) osq)) := HB1.out.trans ((below_regrown w1 dq osq).mono HB1.out.size)
          have t2 := cell_regrown f2 dq osq
          generalize Sort.grow (redrawn w1 dq) osq = W4 at *
          clear f0 f1 f2 f3 hcall
          go_wp2_with fail
          go_loopw [7] (fun i wr => ∃ j : Nat, i = .int .i64 (j : Nat) ∧ j ≤ 0 ∧ Hid (freshM (l.take j) ⟨mh, mp, ms, mg, mu⟩ = true) ∧ ∃ m, wr = W4.drewN m) (fun i _ => 0 - (intOf i).toNat)
          case atStart => exact ⟨0, rfl, Nat.zero_le _, rfl, 0, rfl⟩
          case round =>
            obtain ⟨j, rfl, hj, HFR, m2, rfl⟩ := hrel
            by_cases hlt2 : j < 0
            · exact absurd hlt2 (Nat.not_lt_zero _)
            · have HFK : Hid (freshM (l.take 0) ⟨mh, mp, ms, mg, mu⟩ = true) := by
                have : j = 0 := by omega
                have h1 := HFR.out
                rwa [this] at h1
              have HT2 : Hid (∀ j, j < 0 + 1 → stepM n l j = true) := fun j hj => by
                by_cases e : j = 0
                · subst e; rw [HST.out, HOKT.out, HAH.out, HFK.out]; rfl
                · exact HT.out j (by omega)
              have HB5 : Hid (Below w.heap.size w (W4.drewN m2)) := HB4.out.trans ((below_dr W4 m2).mono HB4.out.size)
              clear HST HNO HOKT HAH HFK HFR
              go_wp2_with fail
              go_roundw
              case rel => exact ⟨0 + 1, by go_num, by omega, HT2.out, HB5.out⟩
              case measure => simp [intOf]; omega
        · obtain ⟨i, hi⟩ : ∃ i, k = i + 1 := ⟨k - 1, by omega⟩
          have hki : (k : Int) - 1 = (i : Nat) := by omega
          have hik : i < L := by omega
          have hkw : IntKind.i64.wrap ((i : Nat) : Int) = (i : Nat) := by rw [IntKind.wrap_i64]; omega
          have hiL : ((i : Nat) : Int) < (L : Nat) := by omega
          have hi0 : (0 : Int) ≤ (i : Nat) := by omega
          have hkpos : (0 : Int) < (k : Nat) := by omega
          have hkd : decide ((0 : Int) < (k : Nat)) = true := decide_eq_true hkpos
          have hkn : 0 < k := by omega
          have hkd2 : decide (0 < k) = true := decide_eq_true hkn
          obtain ⟨qh, qp, qs, qg, qu, hqq⟩ := md_at (xs := l) (j := i) (by have := HLK.out; omega)
          have HAE : Hid (aheadM l k ⟨mh, mp, ms, mg, mu⟩ = ltK (qh, qp) (mh, mp)) := by subst hi; unfold Hid aheadM; simp only [hqq]; rfl
          have e0 : w1.cell? ⟨b, off + i * 5, none⟩ = some (.int .i64 qh) := (HCL.out w1 HB1.out i _ hqq).1
          have e1 : w1.cell? ⟨b, off + i * 5 + 1, none⟩ = some (.int .i64 qp) := (HCL.out w1 HB1.out i _ hqq).2.1
          clear hqq hi
          have HLS : Hid (∀ W, Calls Tryz.prog 59 #[.agg #[.int .i64 qh, .int .i64 qp], .agg #[.int .i64 mh, .int .i64 mp]] W fun e w' => e = .returned (.bool (ltK (qh, qp) (mh, mp))) ∧ Below W.heap.size W w') := fun W => refLess_any qh qp mh mp W
          generalize ltK (qh, qp) (mh, mp) = LT at *
          have p0 := cell_regrown e0
          have p1 := cell_regrown e1
          have p2 := cell_regrown f0
          have p3 := cell_regrown f1
          have hcall : ∀ d os, Calls Tryz.prog 59 #[.agg #[.int .i64 qh, .int .i64 qp], .agg #[.int .i64 mh, .int .i64 mp]] (Sort.grow (redrawn w1 d) os) fun e w'' => e = .returned (.bool LT) ∧ ∃ p : Regrown, w'' = Sort.grow (redrawn w1 p.d) p.os := fun d os => Calls.regrown_of (HLS.out _)
          clear HLS
          cases LT
          · have HF : Hid (rightM n l = false) := HNO.out (by rw [HST.out, HAE.out]; simp)
            clear HST HNO HAE
            go_wp2_with fail
            refine wp_region_quiet_below Tryz.mixed11 (by kernel_rfl) ?_
            repeat (quiet_step (first | (go_at_call 59; with_reducible exact hcall _ _)))
            refine wpQuiet_nil ?_
            intro _ hw'
            obtain ⟨⟨dq, osq⟩, hw''⟩ := hw'
            subst hw''
            dsimp only
            have HB4 : Hid (Below w.heap.size w (Sort.grow (redrawn w1 dq) osq)) := HB1.out.trans ((below_regrown w1 dq osq).mono HB1.out.size)
            have t2 := cell_regrown f2 dq osq
            generalize Sort.grow (redrawn w1 dq) osq = W4 at *
            clear f0 f1 f2 f3 hcall hkw p0 p1 p2 p3 e0 e1
            go_wp2_with fail
            go_ret
            exact ⟨ret_bool HF.out.symm, HB4.out⟩
          · have HAH : Hid (aheadM l k ⟨mh, mp, ms, mg, mu⟩ = true) := HAE.out
            clear HAE
            go_wp2_with fail
            refine wp_region_quiet_below Tryz.mixed11 (by kernel_rfl) ?_
            repeat (quiet_step (first | (go_at_call 59; with_reducible exact hcall _ _)))
            refine wpQuiet_nil ?_
            intro _ hw'
            obtain ⟨⟨dq, osq⟩, hw''⟩ := hw'
            subst hw''
            dsimp only
            have HB4 : Hid (Below w.heap.size w (Sort.grow (redrawn w1 dq) osq)) := HB1.out.trans ((below_regrown w1 dq osq).mono HB1.out.size)
            have t2 := cell_regrown f2 dq osq
            generalize Sort.grow (redrawn w1 dq) osq = W4 at *
            clear f0 f1 f2 f3 hcall hkw p0 p1 p2 p3 e0 e1
            go_wp2_with fail
            go_loopw [7] (fun i wr => ∃ j : Nat, i = .int .i64 (j : Nat) ∧ j ≤ k ∧ Hid (freshM (l.take j) ⟨mh, mp, ms, mg, mu⟩ = true) ∧ ∃ m, wr = W4.drewN m) (fun i _ => k - (intOf i).toNat)
            case atStart => exact ⟨0, rfl, Nat.zero_le _, rfl, 0, rfl⟩
            case round =>
              obtain ⟨j, rfl, hj, HFR, m2, rfl⟩ := hrel
              by_cases hlt2 : j < k
              · obtain ⟨qh, qp, qs, qg, qu, hqq⟩ := md_at (xs := l) (j := j) (by have := HLK.out; omega)
                have c2 : W4.cell? ⟨b, off + j * 5 + 2, none⟩ = some (.int .i64 qs) := (HCL.out W4 HB4.out j _ hqq).2.2.1
                have HHIT : Hid (qs = ms → freshM (l.take k) ⟨mh, mp, ms, mg, mu⟩ = false) := fun e => fresh_hit hqq hlt2 e
                have HNEX : Hid (qs ≠ ms → freshM (l.take (j + 1)) ⟨mh, mp, ms, mg, mu⟩ = true) := fun e => by rw [take_snocA hqq, fresh_snoc, HFR.out]; simpa using e
                clear hqq
                by_cases q1 : qs = ms
                · have HF : Hid (rightM n l = false) := HNO.out (by rw [HST.out, HHIT.out q1]; simp)
                  have HB5 : Hid (Below w.heap.size w (W4.drewN m2)) := HB4.out.trans ((below_dr W4 m2).mono HB4.out.size)
                  clear HNEX HHIT HNO HST HFR
                  subst q1
                  go_wp2_with fail
                  go_quiet (fail)
                  go_wp2_with fail
                  go_ret
                  rw [World.drewN_drewN]
                  exact ⟨ret_bool HF.out.symm, HB4.out.trans ((below_dr W4 _).mono HB4.out.size)⟩
                · have HFR2 : Hid (freshM (l.take (j + 1)) ⟨mh, mp, ms, mg, mu⟩ = true) := HNEX.out q1
                  have hne : (qs = ms) = False := eq_false q1
                  have hne2 : (qs == ms) = false := by simpa using q1
                  clear HNEX HHIT HFR
                  go_wp2_with fail
                  go_quiet (fail)
                  go_wp2_with fail
                  go_roundw
                  case rel => exact ⟨j + 1, by go_num, by omega, HFR2.out, _, rfl⟩
                  case measure => simp [intOf]; omega
              · have HFK : Hid (freshM (l.take k) ⟨mh, mp, ms, mg, mu⟩ = true) := by
                  have : j = k := by omega
                  have h1 := HFR.out
                  rwa [this] at h1
                have HT2 : Hid (∀ j, j < k + 1 → stepM n l j = true) := fun j hj => by
                  by_cases e : j = k
                  · subst e; rw [HST.out, HOKT.out, HAH.out, HFK.out]; rfl
                  · exact HT.out j (by omega)
                have HB5 : Hid (Below w.heap.size w (W4.drewN m2)) := HB4.out.trans ((below_dr W4 m2).mono HB4.out.size)
                clear HST HNO HOKT HAH HFK HFR
                go_wp2_with fail
                go_roundw
                case rel => exact ⟨k + 1, by go_num, by omega, HT2.out, HB5.out⟩
                case measure => simp [intOf]; omega
    · have HE : Hid (rightM n l = true) := rightM_yes (fun j hj => HT.out j (by have := HN.out; omega))
      go_wp2
      go_ret
      exact ⟨ret_bool HE.out.symm, HB.out⟩
end Go.Proofs.YtjhkcdnfnmglhaaGreatDoor

/- Contracts of package entry: placed, Right; the map that says how often each number is there. -/
namespace Go.Proofs.YtjhkcdnfnmglhaaGreatDoor
open Go.RowKit Go.Maps
set_option linter.unusedVariables false

def okE (n s g : Int) : Bool := decide (0 ≤ s ∧ s < n ∧ 1 ≤ g ∧ g ≤ 281474976710655)
theorem placed_any (n s g : Int) (u : Nat) (w : World) :
    Calls Tryz.prog 55 #[.int .i64 n, .agg #[.int .i64 s, .int .i64 g, .int .u32 (u : Nat)]] w fun e w' => e = .returned (.bool (okE n s g)) ∧ Below w.heap.size w w' := by
  by_cases h1 : 0 ≤ s
  · by_cases h2 : s < n
    · by_cases h3 : 1 ≤ g
      · by_cases h4 : g ≤ 281474976710655
        · have HK : Hid (okE n s g = true) := decide_eq_true ⟨h1, h2, h3, h4⟩
          go_enter Tryz.func55, Tryz.ntmps55
          go_wp2
          go_ret
          exact ⟨ret_bool HK.out.symm, (Below.refl _ _).alloc (Nat.le_refl _) _⟩
        · have HK : Hid (okE n s g = false) := decide_eq_false (fun e => h4 e.2.2.2)
          go_enter Tryz.func55, Tryz.ntmps55
          go_wp2
          go_ret
          exact ⟨ret_bool HK.out.symm, (Below.refl _ _).alloc (Nat.le_refl _) _⟩
      · have HK : Hid (okE n s g = false) := decide_eq_false (fun e => h3 e.2.2.1)
        go_enter Tryz.func55, Tryz.ntmps55
        go_wp2
        go_ret
        exact ⟨ret_bool HK.out.symm, (Below.refl _ _).alloc (Nat.le_refl _) _⟩
    · have HK : Hid (okE n s g = false) := decide_eq_false (fun e => h2 e.2.1)
      go_enter Tryz.func55, Tryz.ntmps55
      go_wp2
      go_ret
      exact ⟨ret_bool HK.out.symm, (Below.refl _ _).alloc (Nat.le_refl _) _⟩
  · have HK : Hid (okE n s g = false) := decide_eq_false (fun e => h1 e.1)
    go_enter Tryz.func55, Tryz.ntmps55
    go_wp2
    go_ret
    exact ⟨ret_bool HK.out.symm, (Below.refl _ _).alloc (Nat.le_refl _) _⟩

/-! ### How often each number is there -/
/-- How often each of zs is there. -/
structure CountI (D : DataW Unit) (zs : List Int) : Prop where
  isMap : IsMap D
  times : ∀ x, I64 x → D.atKey (.int .i64 x) (.lit (.int .i64 0)) = .lit (.int .i64 (zs.count x : Nat))
def MapI (w : World) (b : Nat) (zs : List Int) : Prop := ∃ D : DataW Unit, w.ownsMap Tryz.prog 3 (plainElem Tryz.prog 3) b zs.length D ∧ CountI D zs
theorem wfI {c : Int} (h : I64 c) : (Lit.int .i64 c).wf = true := by
  simpa [Lit.wf, IntKind.min, IntKind.max, IntKind.signed, IntKind.bits, I64] using h
theorem lawI : Keyed Tryz.prog 3 := int_keyed Tryz.underlying3
theorem zeroI11 (w : World) : (zeroValue 3).run Tryz.prog w = .ok (.int .i64 0) w := by kernel_rfl
theorem MapI.made (w : World) : MapI (w.alloc (.map #[] 0)) w.heap.size [] := ⟨_, World.ownsMap_made _ _ _ _, isMap_empty, fun x _ => rfl⟩
theorem MapI.lt {w : World} {b : Nat} {zs : List Int} (h : MapI w b zs) : b < w.heap.size := by
  obtain ⟨D, h1, _⟩ := h
  exact h1.lt
theorem MapI.kept {w w' : World} {b : Nat} {zs : List Int} (h : MapI w b zs) (hb : Below w.heap.size w w') : MapI w' b zs := by
  obtain ⟨D, h1, h2⟩ := h
  exact ⟨D, h1.kept (row := none) ⟨hb.os, hb.tape, hb.output, hb.size, fun i hi _ => hb.block i hi⟩ (by simp), h2⟩
theorem MapI.look {w : World} {b : Nat} {zs : List Int} (h : MapI w b zs) {x : Int} (hx : I64 x) :
    (Instr.lookup 94 (.map (some b)) (.int .i64 x) false).run Tryz.prog w = .ok (.int .i64 (zs.count x : Nat)) w := by
  obtain ⟨D, h1, h2⟩ := h
  obtain ⟨c, hr, hat, _⟩ := h1.lookup_int lawI Tryz.underlying94 Tryz.underlying3 (zeroI11 _) (keyOf_int_mk Tryz.underlying3 (wfI hx))
  rw [h2.times x hx] at hat
  simp only [DataW.lit.injEq, Lit.int.injEq, true_and] at hat
  rw [hr, hat]
theorem MapI.inc {w : World} {b : Nat} {zs : List Int} (h : MapI w b zs) {x : Int} (hx : I64 x) (hl : zs.length < 1000000) :
    ∃ w', (Instr.mapUpdate 94 (.map (some b)) (.int .i64 x) (.int .i64 (((zs.count x : Nat) : Int) + 1))).run Tryz.prog w = .ok () w' ∧ MapI w' b (zs ++ [x]) ∧ w.grownBy w' (some b) := by
  obtain ⟨D, h1, h2⟩ := h
  have hc : zs.count x ≤ zs.length := List.count_le_length
  obtain ⟨w', hr, ho, hg⟩ := h1.update lawI Tryz.underlying94 (by unfold maxLen; omega) (keyOf_int_mk Tryz.underlying3 (wfI hx)) (plainElem_int (H := Unit) Tryz.underlying3 (a := ((zs.count x : Nat) : Int) + 1) (wfI ⟨by omega, by omega⟩))
  have h3 : CountI (D.put (.int .i64 x) (.lit (.int .i64 (((zs.count x : Nat) : Int) + 1)))) (zs ++ [x]) := by
    refine ⟨h2.isMap.put _ _, fun y hy => ?_⟩
    by_cases e : y = x
    · subst e
      rw [atKey_put_same h2.isMap (by simp [WideAt.IsKeyLit])]
      simp
    · rw [atKey_put_other (fun e' => e (by cases e'; rfl)), h2.times y hy, List.count_append, List.count_cons]
      have : (x == y) = false := by simpa using fun e' => e e'.symm
      simp [this]
  exact ⟨w', hr, ⟨_, by rw [List.length_append]; exact ho, h3⟩, hg⟩

/-! ### Right -/
/-- The number of the last one: none's is 0. -/
def lastN (l : List Md) (k : Nat) : Int := match k with
  | 0 => 0
  | i + 1 => match l[i]? with
    | some q => numK q.k
    | none => 0
theorem lastN_snoc {l : List Md} {k : Nat} {m : Md} (h : l[k]? = some m) : lastN l (k + 1) = numK m.k := by
  show (match l[k]? with | some q => numK q.k | none => 0) = _
  rw [h]
theorem numK_right {k : Ky} (h : isR k = true) : numK k = 4096 * k.1 + k.2 := by unfold numK; rw [if_pos h]
theorem numK_wrong {k : Ky} (h : isR k = false) : numK k = 0 := by unfold numK; rw [if_neg (by rw [h]; decide)]
theorem numK_pos {k : Ky} (h : isR k = true) : 4096 ≤ numK k := by
  rw [numK_right h]
  have := isR_iff.1 h
  omega
theorem numK_nat (k : Ky) : ∃ N : Nat, numK k = (N : Int) ∧ N ≤ 266239 := by
  cases h : isR k
  · exact ⟨0, numK_wrong h, by decide⟩
  · rw [numK_right h]
    have := isR_iff.1 h
    exact ⟨(4096 * k.1 + k.2).toNat, by omega, by omega⟩
theorem ltK_num {a b : Ky} (ha : isR a = true) (hb : isR b = true) : ltK a b = decide (numK a < numK b) := by
  rw [numK_right ha, numK_right hb]
  have h1 := isR_iff.1 ha
  have h2 := isR_iff.1 hb
  unfold ltK
  congr 1
  apply propext
  omega
theorem stepM_okM {n : Int} {l : List Md} {j : Nat} {q : Md} (hj : l[j]? = some q) (h : stepM n l j = true) : isR q.k = true := by
  rw [stepM_at hj] at h
  simp only [Bool.and_eq_true, okM] at h
  exact h.1.1.1
/-- What one round asks. -/
theorem stepM_num {n : Int} {l : List Md} {k : Nat} {m : Md} (hk : l[k]? = some m) (hp : ∀ j, j < k → stepM n l j = true) :
    stepM n l k = (decide (lastN l k < numK m.k) && okE n m.s m.g && decide (((l.take k).map Md.s).count m.s = 0)) := by
  rw [stepM_at hk]
  have e3 : freshM (l.take k) m = decide (((l.take k).map Md.s).count m.s = 0) := by
    unfold freshM
    rw [eq_comm, Bool.eq_iff_iff, decide_eq_true_iff, List.all_eq_true, List.count_eq_zero]
    constructor
    · intro h q hq
      simp only [decide_eq_true_eq]
      exact fun e => h (by rw [← e]; exact List.mem_map_of_mem hq)
    · intro h hm
      obtain ⟨q, hq, e⟩ := List.mem_map.1 hm
      have := h q hq
      simp only [decide_eq_true_eq] at this
      exact this e
  have e1 : okM n m = (isR m.k && okE n m.s m.g) := rfl
  rw [e3, e1]
  cases hr : isR m.k
  · have e4 : decide (lastN l k < numK m.k) = false := by
      rw [numK_wrong hr, decide_eq_false_iff_not]
      have : 0 ≤ lastN l k := by
        unfold lastN
        split
        · omega
        · split
          · rename_i q _
            obtain ⟨N, hN, _⟩ := numK_nat q.k
            omega
          · omega
      omega
    rw [e4]
    simp
  · have e4 : aheadM l k m = decide (lastN l k < numK m.k) := by
      unfold aheadM lastN
      match k, hk, hp with
      | 0, _, _ =>
        have := numK_pos hr
        rw [eq_comm, decide_eq_true_iff]
        show (0 : Int) < numK m.k
        omega
      | i + 1, hk, hp =>
        have hil : i < l.length := by have := (List.getElem?_eq_some_iff.1 hk).1; omega
        have hq : l[i]? = some l[i] := List.getElem?_eq_getElem hil
        simp only [hq]
        exact ltK_num (stepM_okM hq (hp i (by omega))) hr
    rw [e4]
    simp [Bool.and_comm, Bool.and_assoc]
theorem map_snoc11 {l : List Md} {k : Nat} {m : Md} (h : l[k]? = some m) : (l.take (k + 1)).map Md.s = (l.take k).map Md.s ++ [m.s] := by
  rw [take_snocA h, List.map_append]
  rfl

set_option maxRecDepth 20000 in
set_option maxHeartbeats 1600000 in
theorem right11_any (w : World) (x : Value) (l : List Md) (n : Int) (hx : Els encM 5 w x l) (hm : ∀ m ∈ l, MdI m) (hl0 : l.length ≤ 1000) :
    Calls Tryz.prog 27 #[.int .i64 n, x] w fun e w' => e = .returned (.bool (rightM n l)) ∧ Below w.heap.size w w' := by
  obtain ⟨a, ca, rfl⟩ := hx.shape
  obtain ⟨L, hn⟩ : ∃ L, L = l.length := ⟨_, rfl⟩
  rw [← hn] at hx hl0 ⊢
  have HN : Hid (L = l.length) := hn
  have HX : Hid (Els encM 5 w (.slice a L ca) l) := hx
  have HI : Hid (∀ m ∈ l, MdI m) := hm
  clear hn hx hm
  have hmm := @run_makeMap Tryz.prog
  go_enter Tryz.func27, Tryz.ntmps27
  go_wp2_with fail
  clear hmm
  have HM0 : Hid (MapI (w.alloc (.map #[] 0)) w.heap.size []) := MapI.made w
  have HB0 : Hid (Below w.heap.size w (w.alloc (.map #[] 0))) := (Below.refl _ _).alloc (Nat.le_refl _) _
  go_loopw [6, 13] (fun q i wr => ∃ k : Nat, ∃ N : Nat, i = .int .i64 (k : Nat) ∧ q = .int .i64 (N : Nat) ∧ k ≤ L ∧ N ≤ 266239 ∧ Hid (lastN l k = (N : Int)) ∧ Hid (∀ j, j < k → stepM n l j = true) ∧ Hid (MapI wr w.heap.size ((l.take k).map Md.s)) ∧ Hid (Below w.heap.size w wr)) (fun _ i _ => L - (intOf i).toNat)
  case atStart => exact ⟨0, 0, rfl, rfl, Nat.zero_le _, Nat.zero_le _, rfl, fun j hj => absurd hj (by omega), HM0.out, HB0.out⟩
  case round =>
    obtain ⟨k, N, rfl, rfl, hk, hN, HL, HT, HM, HB⟩ := hrel
    clear HM0 HB0
    by_cases hlt : k < L
    · obtain ⟨b, off, rfl, hb, hc⟩ := (HX.out.kept HB.out).md (by omega)
      obtain ⟨mh, mp, ms, mg, mu, hkk⟩ := md_at (xs := l) (j := k) (by rw [← HN.out]; exact hlt)
      obtain ⟨c0, c1, c2, c3, c4⟩ := hc k _ hkk
      have HST : Hid (stepM n l k = (decide ((N : Int) < numK (mh, mp)) && okE n ms mg && decide (((l.take k).map Md.s).count ms = 0))) := by
        have := stepM_num hkk HT.out
        rw [HL.out] at this
        exact this
      have HLL : Hid (lastN l (k + 1) = numK (mh, mp)) := lastN_snoc hkk
      have HSN : Hid ((l.take (k + 1)).map Md.s = (l.take k).map Md.s ++ [ms]) := map_snoc11 hkk
      have HIS : Hid (I64 ms) := (HI.out _ (List.mem_of_getElem? hkk)).2.2.1
      have HNO : Hid (stepM n l k = false → rightM n l = false) := fun h => rightM_no (by rw [← HN.out]; exact hlt) h
      have HC : Hid (((l.take k).map Md.s).length ≤ 1000) := by unfold Hid; rw [List.length_map, List.length_take]; omega
      obtain ⟨N2, hN2, hN3⟩ := numK_nat (mh, mp)
      have HNB : Hid (∀ W, Calls Tryz.prog 54 #[.agg #[.int .i64 mh, .int .i64 mp]] W fun e w' => e = .returned (.int .i64 (N2 : Nat)) ∧ Below W.heap.size W w') := fun W => by rw [← hN2]; exact number_any mh mp W
      rw [hN2] at HST HLL
      clear hN2 hkk hc hb HL
      obtain ⟨W0, hW⟩ : ∃ W0, W0 = wr.alloc (.cells #[.int .i64 mh, .int .i64 mp, .int .i64 ms, .int .i64 mg, .int .u32 (mu : Nat)] 56) := ⟨_, rfl⟩
      obtain ⟨X, hXX⟩ : ∃ X, X = wr.heap.size := ⟨_, rfl⟩
      have hn5 := new_five wr (.int .i64 mh) (.int .i64 mp) (.int .i64 ms) (.int .i64 mg) (.int .u32 (mu : Nat)) 56
      rw [← hW, ← hXX] at hn5
      obtain ⟨d0, d1, d2, d3, d4⟩ := hn5
      have HB0 : Hid (Below w.heap.size w W0) := by rw [hW]; exact HB.out.alloc HB.out.size _
      have HM0 : Hid (MapI W0 w.heap.size ((l.take k).map Md.s)) := by rw [hW]; exact HM.out.kept ((Below.refl _ _).alloc (Nat.le_refl _) _)
      generalize hzs : (l.take k).map Md.s = zs at *
      clear hzs
      go_wp2_with fail
      rw [← hW]
      try rw [← hXX]
      have HDK : Hid (∀ W, Below W0.heap.size W0 W → W.cell? ⟨X, 2, none⟩ = some (.int .i64 ms) ∧ W.cell? ⟨X, 3, none⟩ = some (.int .i64 mg) ∧ W.cell? ⟨X, 4, none⟩ = some (.int .u32 (mu : Nat))) := fun W hW => ⟨(hW.cell (block_lt_of_cell d2)).trans d2, (hW.cell (block_lt_of_cell d3)).trans d3, (hW.cell (block_lt_of_cell d4)).trans d4⟩
      clear hW hXX HB HM
      refine (HNB.out _).mono ?_
      rintro e w1 ⟨rfl, hB1⟩
      obtain ⟨f2, f3, f4⟩ := HDK.out w1 hB1
      have HB1 : Hid (Below w.heap.size w w1) := HB0.out.trans (hB1.mono HB0.out.size)
      have HM1 : Hid (MapI w1 w.heap.size zs) := HM0.out.kept hB1
      have HBX : Hid (Below W0.heap.size W0 w1) := hB1
      clear hB1 HNB d0 d1 d2 d3 d4 c0 c1 c2 c3 c4 HB0 HM0
      by_cases p1 : N2 ≤ N
      · have HF : Hid (rightM n l = false) := HNO.out (by rw [HST.out, decide_eq_false (show ¬ (N : Int) < (N2 : Int) by omega)]; rfl)
        clear HST HNO HDK HLL HSN
        go_wp2_with fail
        go_ret
        exact ⟨ret_bool HF.out.symm, HB1.out⟩
      have HP1 : Hid (decide ((N : Int) < (N2 : Int)) = true) := decide_eq_true (show (N : Int) < (N2 : Int) by omega)
      have HPL : Hid (∀ W, Calls Tryz.prog 55 #[.int .i64 n, .agg #[.int .i64 ms, .int .i64 mg, .int .u32 (mu : Nat)]] W fun e w' => e = .returned (.bool (okE n ms mg)) ∧ Below W.heap.size W w') := fun W => placed_any n ms mg mu W
      generalize okE n ms mg = OE at *
      cases OE
      · have HF : Hid (rightM n l = false) := HNO.out (by rw [HST.out]; simp)
        clear HST HNO HLL HSN
        go_wp2_with fail
        refine (HPL.out _).mono ?_
        rintro e w2 ⟨rfl, hB2⟩
        have HB2 : Hid (Below w.heap.size w w2) := HB1.out.trans (hB2.mono HB1.out.size)
        clear hB2 HPL f2 f3 f4 HDK
        go_wp2_with fail
        go_ret
        exact ⟨ret_bool HF.out.symm, HB2.out⟩
      · go_wp2_with fail
        refine (HPL.out _).mono ?_
        rintro e w2 ⟨rfl, hB2⟩
        have HB2 : Hid (Below w.heap.size w w2) := HB1.out.trans (hB2.mono HB1.out.size)
        have HM2 : Hid (MapI w2 w.heap.size zs) := HM1.out.kept hB2
        have g2 := (HDK.out w2 (HBX.out.trans (hB2.mono HBX.out.size))).1
        clear hB2 HPL f2 f3 f4 HDK HM1 HB1 HBX
        have hlk := HM2.out.look HIS.out
        obtain ⟨w3, hup, hm3, hg3⟩ := HM2.out.inc HIS.out (by have := HC.out; omega)
        have hcl : zs.count ms ≤ 1000 := Nat.le_trans List.count_le_length HC.out
        have HM3 : Hid (MapI w3 w.heap.size ((l.take (k + 1)).map Md.s)) := by rw [HSN.out]; exact hm3
        have HB3 : Hid (Below w.heap.size w w3) := HB2.out.grown hg3 HB2.out.size (fun j hj => by cases hj; exact Nat.le_refl _)
        clear hm3 hg3 HM2 HSN HC HIS
        by_cases p2 : 0 < zs.count ms
        · have HF : Hid (rightM n l = false) := HNO.out (by rw [HST.out, decide_eq_false (show ¬ zs.count ms = 0 by omega)]; simp)
          generalize zs.count ms = c at *
          clear HST HNO HLL hup
          go_wp2_with fail
          go_ret
          exact ⟨ret_bool HF.out.symm, HB2.out⟩
        · have HS : Hid (stepM n l k = true) := by unfold Hid; rw [HST.out, HP1.out, decide_eq_true (show zs.count ms = 0 by omega)]; rfl
          have HT2 : Hid (∀ j, j < k + 1 → stepM n l j = true) := fun j hj => by
            by_cases e : j = k
            · subst e; exact HS.out
            · exact HT.out j (by omega)
          have hz : zs.count ms = 0 := by omega
          rw [hz] at hlk hup
          have e01 : (((0 : Nat) : Int) + 1) = 1 := rfl
          rw [e01] at hup
          clear e01
          clear HST HNO HS HP1 hz p2 hcl
          go_wp2_with fail
          go_roundw
          case rel => exact ⟨k + 1, N2, by go_num, rfl, by omega, hN3, HLL.out, HT2.out, HM3.out, HB3.out⟩
          case measure => simp [intOf]; omega
    · have HE : Hid (rightM n l = true) := rightM_yes (fun j hj => HT.out j (by have := HN.out; omega))
      go_wp2
      go_ret
      exact ⟨ret_bool HE.out.symm, HB.out⟩
end Go.Proofs.YtjhkcdnfnmglhaaGreatDoor

/- A reading in memory: what a walk is told of one. -/
namespace Go.Proofs.YtjhkcdnfnmglhaaGreatDoor
open Go.RowKit
set_option linter.unusedVariables false

/-- A struct of two cells at block p. -/
def TwoAt (w : World) (p : Nat) (t : TypeId) (v0 v1 : Value) : Prop := w.heap[p]? = some (.cells #[v0, v1] t (0, 0))
theorem TwoAt.cell {w : World} {p : Nat} {t : TypeId} {v0 v1 : Value} (h : TwoAt w p t v0 v1) : w.cell? ⟨p, 0, none⟩ = some v0 ∧ w.cell? ⟨p, 1, none⟩ = some v1 := by
  unfold TwoAt at h
  refine ⟨?_, ?_⟩ <;> rw [cell_of_row w p _ _ _ _ h] <;> rfl
theorem TwoAt.frozen {w : World} {p : Nat} {t : TypeId} {v0 v1 : Value} (h : TwoAt w p t v0 v1) (i : Nat) : w.frozen? ⟨p, i, none⟩ = false := by
  simp [World.frozen?, show w.heap[p]? = _ from h]
theorem TwoAt.lt {w : World} {p : Nat} {t : TypeId} {v0 v1 : Value} (h : TwoAt w p t v0 v1) : p < w.heap.size := lt_of_heap h
theorem TwoAt.set0 {w : World} {p : Nat} {t : TypeId} {v0 v1 : Value} (h : TwoAt w p t v0 v1) (u : Value) : TwoAt (w.setCell ⟨p, 0, none⟩ u) p t u v1 := (heap_set_row h 0 u).trans rfl
theorem TwoAt.set1 {w : World} {p : Nat} {t : TypeId} {v0 v1 : Value} (h : TwoAt w p t v0 v1) (u : Value) : TwoAt (w.setCell ⟨p, 1, none⟩ u) p t v0 u := (heap_set_row h 1 u).trans rfl
theorem TwoAt.noOct {w : World} {p : Nat} {t : TypeId} {v0 v1 : Value} (h : TwoAt w p t v0 v1) (h0 : ∀ z, v0 ≠ .int .u8 z) (h1 : ∀ z, v1 ≠ .int .u8 z) : NoOct w p := by
  intro i z e
  unfold TwoAt at h
  rw [cell_of_row w p _ _ _ _ h] at e
  match i, e with
  | 0, e => exact h0 z (by simpa using e)
  | 1, e => exact h1 z (by simpa using e)
  | i + 2, e => simp at e

/-- What a reading is: the octets that are left; did it fail? -/
structure RS where
  zs : List Nat
  fail : Bool
end Go.Proofs.YtjhkcdnfnmglhaaGreatDoor

/- Contracts of 'within' and of a reading's 'take'. -/
namespace Go.Proofs.YtjhkcdnfnmglhaaGreatDoor
open Go.RowKit
set_option linter.unusedVariables false
/-- Function f may be entered. -/
def Enters (f : Nat) : Prop := ∀ args w, Sem.run Tryz.prog (callFunc f args) w = .ok (.enter f args) w

/-- Octets of a slice, sliced at the n-th: those ahead. -/
theorem Octs.front {w : World} {b off l cap n : Nat} {zs : List Nat} (h : Octs w (.slice (some ⟨b, off, none⟩) l cap) zs) (hn : n ≤ l) : Octs w (.slice (some ⟨b, off, none⟩) n cap) (zs.take n) := by
  have hl := h.lenEq
  have hln : (zs.take n).length = n := by rw [List.length_take]; omega
  have hsm := h.small
  have hcap : l ≤ cap ∧ cap ≤ maxLen ∧ l ≤ maxLen := by
    obtain ⟨_, h2, a', cap', e, h3, h4, _⟩ := h
    simp only [Value.slice.injEq] at e
    omega
  refine ⟨fun z hz => hsm z (List.mem_of_mem_take hz), by omega, some ⟨b, off, none⟩, cap, by rw [hln], by omega, hcap.2.1, .inr ⟨_, rfl, ?_⟩⟩
  by_cases h0 : n = 0
  · left; subst h0; rfl
  · right
    obtain ⟨b', off', e, hlt, hc⟩ := h.addr (by omega)
    simp only [Option.some.injEq, Addr.mk.injEq] at e
    obtain ⟨rfl, rfl, _⟩ := e
    refine ⟨b, off, rfl, hlt, fun j hj => ?_⟩
    rw [hln] at hj
    rw [hc j (by omega), List.getElem?_take_of_lt hj]
/-- And those behind. -/
theorem Octs.back {w : World} {b off l cap n x : Nat} {zs : List Nat} (h : Octs w (.slice (some ⟨b, off, none⟩) l cap) zs) (hn : n ≤ l) (hx : x = off + n ∨ l = n) : Octs w (.slice (some ⟨b, x, none⟩) (l - n) (cap - n)) (zs.drop n) := by
  have hl := h.lenEq
  have hln : (zs.drop n).length = l - n := by rw [List.length_drop]; omega
  have hsm := h.small
  have hcap : l ≤ cap ∧ cap ≤ maxLen ∧ l ≤ maxLen := by
    obtain ⟨_, h2, a', cap', e, h3, h4, _⟩ := h
    simp only [Value.slice.injEq] at e
    omega
  refine ⟨fun z hz => hsm z (List.mem_of_mem_drop hz), by omega, some ⟨b, x, none⟩, cap - n, by rw [hln], by omega, by omega, .inr ⟨_, rfl, ?_⟩⟩
  by_cases h0 : l = n
  · left; exact List.eq_nil_of_length_eq_zero (by omega)
  · right
    obtain rfl : x = off + n := by omega
    obtain ⟨b', off', e, hlt, hc⟩ := h.addr (by omega)
    simp only [Option.some.injEq, Addr.mk.injEq] at e
    obtain ⟨rfl, rfl, _⟩ := e
    refine ⟨b, off + n, rfl, hlt, fun j hj => ?_⟩
    rw [hln] at hj
    rw [Nat.add_assoc, hc (n + j) (by omega), List.getElem?_drop]

/-- A reading that has failed. -/
def RS.failed : RS := ⟨[], true⟩
end Go.Proofs.YtjhkcdnfnmglhaaGreatDoor

/- Contract of 'Lay': a number in octets, in new memory. -/
namespace Go.Proofs.YtjhkcdnfnmglhaaGreatDoor
open Go.RowKit
set_option linter.unusedVariables false

theorem Tryz.infoU8' : (Tryz.prog.info? 5).map (fun i => (i.zero, i.size, i.bytes)) = some (some (.int .u8 0), 1, 1) := by kernel_rfl

/-- The i-th octet of a number. -/
def octet (n : Int) (i : Nat) : Int := n / 2 ^ (8 * i) % 256
def octL (n : Int) (k : Nat) : List Int := (List.range k).map (octet n)
def layA (n : Int) (k i : Nat) : Array Value := ((List.range k).map fun j => Value.int .u8 (if j < i then octet n j else 0)).toArray
theorem layA_zero (n : Int) (k : Nat) : madeCells (#[Value.int .u8 0]) k = layA n k 0 := by
  apply Array.ext_getElem?
  intro j
  simp only [madeCells, layA, Array.getElem?_map, List.getElem?_toArray, List.getElem?_map]
  by_cases hj : j < k
  · simp [hj, Nat.mod_one]
  · simp [hj]
theorem layA_succ (n : Int) (k i : Nat) (h : i < k) : (layA n k i).setIfInBounds i (.int .u8 (octet n i)) = layA n k (i + 1) := by
  apply Array.ext_getElem?
  intro j
  simp only [layA, Array.getElem?_setIfInBounds, List.getElem?_toArray, List.getElem?_map, List.size_toArray, List.length_map, List.length_range]
  by_cases hj : i = j
  · subst hj; simp [h]
  · rw [if_neg hj]
    by_cases hjk : j < k
    · simp [hjk]
      by_cases h2 : j < i
      · rw [if_pos h2, if_pos (by omega)]
      · rw [if_neg h2, if_neg (by omega)]
    · simp [hjk]
theorem layA_get (n : Int) (k i j : Nat) (h : j < k) : (layA n k i)[j]? = some (.int .u8 (if j < i then octet n j else 0)) := by
  simp [layA, h]
theorem layA_full (n : Int) (k : Nat) : layA n k k = ((octL n k).map (Value.int .u8)).toArray := by
  unfold layA octL
  congr 1
  rw [List.map_map]
  apply List.map_congr_left
  intro j hj
  rw [List.mem_range] at hj
  rw [if_pos hj]; rfl
theorem octet_math (n : Int) (i : Nat) (h : i < 8) : IntKind.u8.wrap (IntKind.u64.wrap n / 2 ^ (8 * i)) = octet n i := by
  rw [IntKind.wrap_u8, IntKind.wrap_u64]
  unfold octet
  have hs := two_pow_split (8 * i) (by omega)
  have e : (2 : Int) ^ (64 - 8 * i) = 256 * 2 ^ (64 - 8 * i - 8) := by
    rw [show (256 : Int) = 2 ^ 8 by rfl, ← Int.pow_add, show 8 + (64 - 8 * i - 8) = 64 - 8 * i by omega]
  have hp := two_pow_pos (8 * i)
  rw [← hs, e]
  generalize (2 : Int) ^ (8 * i) = m at *
  generalize (2 : Int) ^ (64 - 8 * i - 8) = d at *
  have h1 : n % (m * (256 * d)) / m = n / m % (256 * d) := by
    have e1 := Int.mul_ediv_add_emod n m
    have r0 := Int.emod_nonneg n (Int.ne_of_gt hp)
    have r1 := Int.emod_lt_of_pos n hp
    have hq : n % (m * (256 * d)) = m * (n / m % (256 * d)) + n % m := by
      have q := Int.mul_ediv_add_emod (n / m) (256 * d)
      have hn : n = (m * (n / m % (256 * d)) + n % m) + m * (256 * d) * (n / m / (256 * d)) := by
        have : m * (n / m) = m * (256 * d * (n / m / (256 * d)) + n / m % (256 * d)) := by rw [q]
        rw [Int.mul_add, ← Int.mul_assoc] at this
        omega
      have hd : 0 < 256 * d := by
        by_cases hd : 0 < 256 * d
        · exact hd
        · exfalso
          have := Int.mul_le_mul_of_nonneg_left (show 256 * d ≤ 0 by omega) (Int.le_of_lt hp)
          rw [e] at hs
          omega
      have b0 := Int.emod_nonneg (n / m) (Int.ne_of_gt hd)
      have b1 := Int.emod_lt_of_pos (n / m) hd
      have hlt : m * (n / m % (256 * d)) + n % m < m * (256 * d) := by
        have := Int.mul_le_mul_of_nonneg_left (show n / m % (256 * d) ≤ 256 * d - 1 by omega) (Int.le_of_lt hp)
        rw [Int.mul_sub] at this
        omega
      have h0 : 0 ≤ m * (n / m % (256 * d)) + n % m := Int.add_nonneg (Int.mul_nonneg (Int.le_of_lt hp) b0) r0
      have h3 : (m * (n / m % (256 * d)) + n % m + m * (256 * d) * (n / m / (256 * d))) % (m * (256 * d)) = m * (n / m % (256 * d)) + n % m := by
        rw [Int.add_mul_emod_self_left]
        exact Int.emod_eq_of_lt h0 hlt
      rw [← hn] at h3
      exact h3
    rw [hq, Int.mul_add_ediv_left _ _ (Int.ne_of_gt hp), Int.ediv_eq_zero_of_lt r0 r1, Int.add_zero]
  rw [h1]
  exact Int.emod_emod_of_dvd _ ⟨d, rfl⟩

end Go.Proofs.YtjhkcdnfnmglhaaGreatDoor
