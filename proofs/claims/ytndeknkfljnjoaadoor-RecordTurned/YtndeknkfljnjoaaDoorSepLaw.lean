/- A range over a function whose iterator has memory of its own and may itself range over a function: a law of my own, by footprints (which blocks an invariant lies on). At the wide fence. Generic over the program. -/
import Derived.Test.YtndeknkfljnjoaaDoorKept
import Derived.RangeFuncNested
import Derived.RangeFuncBound
import Derived.RangeFuncCalls
import Derived.RangeFuncLeaves
import Derived.Shelf.Abstract
import Derived.OwnWalkIn
namespace Go.Proofs.YtndeknkfljnjoaaDoor
open Go.RowKit
set_option linter.unusedVariables false

/-- An invariant that lies on the blocks D alone. -/
structure Local {α : Type} (J : (Nat → Prop) → α → World → Prop) : Prop where
  lt : ∀ D s W, J D s W → ∀ k, D k → k < W.heap.size
  same : ∀ D s W W', J D s W → Kept D W W' → J D s W'
/-- D' has, beside blocks of D, new ones alone. -/
def Grew (D D' : Nat → Prop) (n : Nat) : Prop := ∀ k, D' k → D k ∨ n ≤ k
theorem Grew.refl (D : Nat → Prop) (n : Nat) : Grew D D n := fun _ h => .inl h
theorem Grew.trans {D D' D'' : Nat → Prop} {n m : Nat} (h : Grew D D' n) (k : Grew D' D'' m) (hm : n ≤ m) : Grew D D'' n := fun j hj => by
  rcases k j hj with e | e
  · exact h j e
  · right; omega
/-- What is neither of D nor new is left alone. -/
abbrev Spared (D : Nat → Prop) (W W' : World) : Prop := Kept (fun k => k < W.heap.size ∧ ¬ D k) W W'
theorem Spared.trans {D D' : Nat → Prop} {A B C : World} (h : Spared D A B) (g : Grew D D' A.heap.size) (k : Spared D' B C) : Spared D A C :=
  Kept.trans h (Kept.mono k fun j hj => ⟨Nat.lt_of_lt_of_le hj.1 h.size, fun e => by
    rcases g j e with e | e
    · exact hj.2 e
    · omega⟩)
theorem Spared.ofBelow {D : Nat → Prop} {A B : World} (h : Below A.heap.size A B) : Spared D A B := Kept.ofBelow h fun _ hk => hk.1
theorem Kept.putObj (K : Nat → Prop) (W : World) (l : Nat) (o : Obj) (h : ¬ K l) (hlt : ∀ k, K k → k < W.heap.size) : Kept K W (W.putObj l o) :=
  (Kept.refl _ W).grown (grownBy_putObj' W l o) fun k hk => ⟨hlt k hk, fun e => h (by cases e; exact hk)⟩

/-- What one round of a loop does, whatever the footprint is. -/
def YieldSep {α : Type} (P : Program) (l : Nat) (encs : α → Array Value) (Ok : List α → α → World → Prop) (J Jx : (Nat → Prop) → List α → World → Prop) : Prop :=
  ∀ D pre x W, J D pre W → Ok pre x W → ∀ m, YieldAt Fence.wide m P l (encs x) W fun e W' => Spared D W W' ∧
    ((e = .returned (.bool true) ∧ ∃ D', J D' (pre ++ [x]) W' ∧ Grew D D' W.heap.size) ∨ (e = .returned (.bool false) ∧ ∃ D', Jx D' (pre ++ [x]) W' ∧ Grew D D' W.heap.size))
/-- An iterator's contract: it reads the blocks R, leaves alone what is not its own, and hands out what Ok tells. -/
def SeqSep {α : Type} (P : Program) (g : Nat) (lb : Array Value) (encs : α → Array Value) (Ok : List α → α → World → Prop) (R : Nat → Prop) (S Sp : List α → Prop) (W0 : World) : Prop :=
  ∀ (l : Nat) (J Jx : (Nat → Prop) → List α → World → Prop) (D : Nat → Prop) (W : World), Local J → Local Jx → Kept R W0 W → (∀ k, R k → ¬ D k) → YieldSep P l encs Ok J Jx → J D [] W →
    Calls P g (#[.func (.yield l) #[] #[]] ++ lb) W fun e W' => (∃ v, e = .returned v) ∧ Spared D W W' ∧
      ((∃ xs D', S xs ∧ J D' xs W' ∧ Grew D D' W.heap.size) ∨ (∃ pre D', Sp pre ∧ Jx D' pre W' ∧ Grew D D' W.heap.size))

/-- What a round's body owes: V the world where it begins. -/
def sepPost {α : Type} (D : Nat → Prop) (n : Nat) (I : (Nat → Prop) → List α → World → Prop) (Ix : Code → (Nat → Prop) → List α → World → Prop) (xs : List α) (V : World) : Exit → Act → World → Prop
  | .normal, _, W' => Kept (fun k => k < n ∧ ¬ D k) V W' ∧ ∃ D', I D' xs W' ∧ Grew D D' n
  | .ret, _, W' => Kept (fun k => k < n ∧ ¬ D k) V W' ∧ ∃ D', Ix .ret D' xs W' ∧ Grew D D' n
  | .exit id, _, W' => Kept (fun k => k < n ∧ ¬ D k) V W' ∧ ∃ D', Ix (.exit id) D' xs W' ∧ Grew D D' n
  | .goto t, _, W' => Kept (fun k => k < n ∧ ¬ D k) V W' ∧ ∃ D', Ix (.goto t) D' xs W' ∧ Grew D D' n
  | .panic _, _, _ => False
  | .outgrown, _, _ => False

/-- The law: 'for x := range g { .. }' in a function that stands in no round. -/
theorem wpIn_rangeSep {α : Type} {P : Program} {g : Operand} {ps : Array Tmp} {assign body : Code} {Q : Exit → Act → World → Prop} {a : Act} {w : World} {n : Nat}
    {gf : Nat} {lb : Array Value} (hg : a.eval g = .func (.func gf) #[] lb) (eg : ∀ args w, (callFunc gf args).run P w = .ok (.enter gf args) w)
    {encs : α → Array Value} {Ok : List α → α → World → Prop} {R : Nat → Prop} {S Sp : List α → Prop} {W0 : World} (hseq : SeqSep P gf lb encs Ok R S Sp W0) (hR : Kept R W0 w) (hRl : ∀ k, R k → k < w.heap.size) (hps : ∀ x, (encs x).size = ps.size)
    (I : (Nat → Prop) → List α → World → Prop) (Ix : Code → (Nat → Prop) → List α → World → Prop) (hI : Local I) (hIx : ∀ c, Local (Ix c)) (D : Nat → Prop) (hRD : ∀ k, R k → ¬ D k) (h0 : I D [] w)
    (hround : ∀ (l : Nat) (D1 : Nat → Prop) (pre : List α) (x : α) (W : World), w.heap.size ≤ l → ¬ D1 l → (∃ r, W.heap[l]? = some (.loop r)) → I D1 pre W → Ok pre x W →
      assign.wpIn (Fence.wide.inRound l) (n - 1 - 1) P (Exit.then (fun a' Wa => Below W.heap.size W Wa ∧ ∀ V, Kept (fun k => k ≠ l) Wa V → V.heap.size = Wa.heap.size → body.wpIn (Fence.wide.inRound l) (n - 1 - 1) P (sepPost D1 W.heap.size I Ix (pre ++ [x]) V) a' V) (fun _ _ _ => False))
        { tmps := (ps.zip (encs x)).foldl (fun t (p, v) => t.setIfInBounds p v) a.tmps, defers := [] } W)
    (hdone : ∀ (dd : Nat) (D1 : Nat → Prop) (xs : List α) (W : World), w.heap.size ≤ dd → ¬ D1 dd → S xs → I D1 xs W → Grew D D1 w.heap.size → Spared D w W → W.heap[dd]? = some (.deferred (some [])) → Q .normal { a with defers := { target := .collected dd, args := #[] } :: a.defers } W)
    (hstop : ∀ (dd : Nat) (c : Code) (D1 : Nat → Prop) (pre : List α) (W : World), w.heap.size ≤ dd → ¬ D1 dd → Sp pre → Ix c D1 pre W → Grew D D1 w.heap.size → Spared D w W → W.heap[dd]? = some (.deferred (some [])) → c.wpIn Fence.wide n P Q { a with defers := { target := .collected dd, args := #[] } :: a.defers } W) :
    (Code.rangeFunc g ps assign body).wpIn Fence.wide n P Q a w := by
  refine wpIn_rangeFunc ?_
  intro fn hfn
  obtain ⟨dd, hdd⟩ : ∃ dd, dd = w.heap.size := ⟨_, rfl⟩
  obtain ⟨l, hl⟩ : ∃ l, l = w.heap.size + 1 := ⟨_, rfl⟩
  -- the record, in its two states of rest
  obtain ⟨rec, hrec⟩ : ∃ rec : LoopState → Option Code → Loop, rec = fun st pe => { state := st, pending := pe, fn, tmps := a.tmps, params := ps, assign, body, defers := dd } := ⟨_, rfl⟩
  obtain ⟨W1, hW1⟩ : ∃ W1, W1 = (w.alloc (.deferred (some []))).alloc (.loop (rec .ready none)) := ⟨_, rfl⟩
  have hsz : W1.heap.size = w.heap.size + 2 := by rw [hW1]; simp
  have hB : Below w.heap.size w W1 := by rw [hW1]; exact ((Below.refl _ w).alloc (Nat.le_refl _) _).alloc (by simp) _
  have hL1 : W1.heap[l]? = some (.loop (rec .ready none)) := by
    rw [hW1, hl]; have := World.alloc_heap_new (w.alloc (.deferred (some []))) (.loop (rec .ready none)); rwa [World.size_alloc] at this
  have hK1 : W1.heap[dd]? = some (.deferred (some [])) := by
    rw [hW1, hdd]; exact (Below.heap_alloc _ _ _ (by simp)).trans (World.alloc_heap_new w _)
  have hDlt : ∀ k, D k → k < w.heap.size := hI.lt D [] w h0
  -- the footprint with the two blocks beside it
  let less : (Nat → Prop) → Nat → Prop := fun E k => E k ∧ k ≠ l ∧ k ≠ dd
  let more : (Nat → Prop) → Nat → Prop := fun E k => E k ∨ k = l ∨ k = dd
  have hless : ∀ E : Nat → Prop, ¬ E l → ¬ E dd → less (more E) = E := fun E h1 h2 => by
    funext k
    refine propext ⟨fun ⟨e, e1, e2⟩ => ?_, fun e => ⟨.inl e, fun e1 => h1 (e1 ▸ e), fun e1 => h2 (e1 ▸ e)⟩⟩
    rcases e with e | e | e
    · exact e
    · exact absurd e e1
    · exact absurd e e2
  let J : (Nat → Prop) → List α → World → Prop := fun E pre W => I (less E) pre W ∧ E l ∧ E dd ∧ W.heap[l]? = some (.loop (rec .ready none)) ∧ W.heap[dd]? = some (.deferred (some []))
  let Jx : (Nat → Prop) → List α → World → Prop := fun E pre W => ∃ c, Ix c (less E) pre W ∧ E l ∧ E dd ∧ W.heap[l]? = some (.loop (rec .done (some c))) ∧ W.heap[dd]? = some (.deferred (some []))
  have ltOf : ∀ {W : World} {b : Nat} {o : Obj}, W.heap[b]? = some o → b < W.heap.size := fun h => (Array.getElem?_eq_some_iff.1 h).1
  have hlt3 : ∀ (E : Nat → Prop) (W : World), (∀ k, less E k → k < W.heap.size) → l < W.heap.size → dd < W.heap.size → ∀ k, E k → k < W.heap.size := fun E W h h1 h2 k hk => by
    by_cases e1 : k = l
    · omega
    · by_cases e2 : k = dd
      · omega
      · exact h k ⟨hk, e1, e2⟩
  have hJ : Local J := ⟨fun E s W hs => hlt3 E W (hI.lt _ _ _ hs.1) (ltOf hs.2.2.2.1) (ltOf hs.2.2.2.2), fun E s W W' hs hk =>
    ⟨hI.same _ _ _ _ hs.1 (hk.mono fun _ h => h.1), hs.2.1, hs.2.2.1, (hk.block l hs.2.1).trans hs.2.2.2.1, (hk.block dd hs.2.2.1).trans hs.2.2.2.2⟩⟩
  have hJx : Local Jx := ⟨fun E s W ⟨c, hs⟩ => hlt3 E W ((hIx c).lt _ _ _ hs.1) (ltOf hs.2.2.2.1) (ltOf hs.2.2.2.2), fun E s W W' ⟨c, hs⟩ hk =>
    ⟨c, (hIx c).same _ _ _ _ hs.1 (hk.mono fun _ h => h.1), hs.2.1, hs.2.2.1, (hk.block l hs.2.1).trans hs.2.2.2.1, (hk.block dd hs.2.2.1).trans hs.2.2.2.2⟩⟩
  have hnl : ¬ D l := fun h => by have := hDlt l h; omega
  have hnd : ¬ D dd := fun h => by have := hDlt dd h; omega
  have hJ0 : J (more D) [] W1 := by
    refine ⟨?_, .inr (.inl rfl), .inr (.inr rfl), hL1, hK1⟩
    rw [hless D hnl hnd]
    exact hI.same _ _ _ _ h0 (Kept.ofBelow hB hDlt)
  refine ⟨l, [{ target := .collected dd, args := #[] }], W1, { target := .fn (.func gf) lb, args := #[.func (.yield l) #[] #[]] }, W1, gf, #[.func (.yield l) #[] #[]] ++ lb, W1, ?_, ?_, fun _ _ => trivial, ?_, fun h => by simp [Fence.wide] at h, callsIn_wide.2 ?_⟩
  · rw [hW1, hrec, hl, hdd]; exact run_enterLoop_outer _ _ _ _ _
  · simp only [resolve, hg]
    simp [go_sem]
  · simp [invoke, go_sem, eg]
  -- one round
  have hY : YieldSep P l encs Ok J Jx := by
    rintro E pre x W ⟨hi, hEl, hEd, hLW, hKW⟩ hok m
    have hlW := ltOf hLW
    have hdW := ltOf hKW
    have hy := run_yield (P := P) (args := encs x) hLW (by rw [hrec]; exact hps x)
    rw [hrec] at hy
    refine ⟨fn, _, assign, body, hy, ?_⟩
    have anyDepth : ∀ {f tmps R}, RoundIn Fence.wide (n - 1 - 1) P l f tmps assign body W R → RoundIn Fence.wide m P l f tmps assign body W R := fun ⟨h1, h2⟩ => ⟨h1, fun c cs _ => h2 c cs (room_wide _)⟩
    refine anyDepth (roundIn_of_wpIn hfn (wpIn_mono (hround l (less E) pre x W (by omega) (fun h => h.2.1 rfl) ⟨_, hLW⟩ hi hok) ?_))
    intro e a' Wa he
    cases e with
    | normal =>
      obtain ⟨hWa, hbody⟩ := he
      have hLa : Wa.heap[l]? = some (.loop (rec .ready none)) := (hWa.block l hlW).trans hLW
      have hKa : Wa.heap[dd]? = some (.deferred (some [])) := (hWa.block dd hdW).trans hKW
      refine ⟨_, run_beginRound hLa (by rw [hrec]), ?_⟩
      obtain ⟨V, hV⟩ : ∃ V, V = Wa.putObj l (.loop { rec .ready none with state := .busy }) := ⟨_, rfl⟩
      have hVs : V.heap.size = Wa.heap.size := by rw [hV]; simp
      have hVk : Kept (fun k => k ≠ l) Wa V := by
        rw [hV]
        have := grownBy_putObj' Wa l (.loop { rec .ready none with state := .busy })
        refine ⟨this.os, this.tape, this.output, this.size, fun k hk => World.putObj_heap_other hk⟩
      have hLV : V.heap[l]? = some (.loop { rec .ready none with state := .busy }) := by rw [hV]; exact World.putObj_heap_same (ltOf hLa)
      have hKV : V.heap[dd]? = some (.deferred (some [])) := (hVk.block dd (show dd ≠ l by omega)).trans hKa
      rw [← hV]
      have hsize : W.heap.size ≤ V.heap.size := by have := hWa.size; omega
      have fin : ∀ (jump : Option Code) (W3 : World), Kept (fun k => k < W.heap.size ∧ ¬ less E k) V W3 →
          (Instr.endRound l jump).run P W3 = .ok (.bool jump.isNone) (W3.putObj l (.loop (rec (if jump.isNone then .ready else .done) jump))) ∧
          Spared E W (W3.putObj l (.loop (rec (if jump.isNone then .ready else .done) jump))) ∧
          (∀ E', (∀ k, E' k → k < W3.heap.size) → ¬ E' l → Kept E' W3 (W3.putObj l (.loop (rec (if jump.isNone then .ready else .done) jump)))) ∧
          (W3.putObj l (.loop (rec (if jump.isNone then .ready else .done) jump))).heap[l]? = some (.loop (rec (if jump.isNone then .ready else .done) jump)) ∧
          (W3.putObj l (.loop (rec (if jump.isNone then .ready else .done) jump))).heap[dd]? = some (.deferred (some [])) := fun jump W3 hk3 => by
        have hl3 := (hk3.block l ⟨hlW, fun h => h.2.1 rfl⟩).trans hLV
        have hd3 := (hk3.block dd ⟨hdW, fun h => h.2.2 rfl⟩).trans hKV
        have hrun := run_endRound (P := P) jump hl3
        rw [hrec] at hrun
        refine ⟨by rw [hrec]; exact hrun, ?_, fun E' h1 h2 => Kept.putObj E' _ _ _ h2 h1, World.putObj_heap_same (ltOf hl3), (World.putObj_heap_other (show dd ≠ l by omega)).trans hd3⟩
        have hs3 : W.heap.size ≤ W3.heap.size := Nat.le_trans hsize hk3.size
        have k1 : Kept (fun k => k < W.heap.size ∧ ¬ E k) W Wa := Kept.ofBelow hWa fun _ hk => hk.1
        have k2 : Kept (fun k => k < W.heap.size ∧ ¬ E k) Wa V := hVk.mono fun k hk e => hk.2 (e ▸ hEl)
        have k3 : Kept (fun k => k < W.heap.size ∧ ¬ E k) V W3 := hk3.mono fun k hk => ⟨hk.1, fun e => hk.2 e.1⟩
        exact ((k1.trans k2).trans k3).trans (Kept.putObj _ _ _ _ (fun h => h.2 hEl) (fun k hk => by have := hk.1; omega))
      have grew : ∀ {D' : Nat → Prop}, Grew (less E) D' W.heap.size → ¬ D' l ∧ ¬ D' dd ∧ Grew E (more D') W.heap.size := fun {D'} hgr => by
        refine ⟨fun h => ?_, fun h => ?_, fun k hk => ?_⟩
        · rcases hgr l h with e | e
          · exact e.2.1 rfl
          · omega
        · rcases hgr dd h with e | e
          · exact e.2.2 rfl
          · omega
        · rcases hk with hk | rfl | rfl
          · rcases hgr k hk with e | e
            · exact .inl e.1
            · exact .inr e
          · exact .inl hEl
          · exact .inl hEd
      refine wpIn_mono (hbody V hVk hVs) ?_
      have leave : ∀ (c : Code) (W3 : World), (Kept (fun k => k < W.heap.size ∧ ¬ less E k) V W3 ∧ ∃ D', Ix c D' (pre ++ [x]) W3 ∧ Grew (less E) D' W.heap.size) →
          ∃ v w', (Instr.endRound l (some c)).run P W3 = .ok v w' ∧ (Spared E W w' ∧ ((Ending.returned v = .returned (.bool true) ∧ ∃ D', J D' (pre ++ [x]) w' ∧ Grew E D' W.heap.size) ∨ (Ending.returned v = .returned (.bool false) ∧ ∃ D', Jx D' (pre ++ [x]) w' ∧ Grew E D' W.heap.size))) := fun c W3 ⟨hk3, D', hi3, hgr⟩ => by
        obtain ⟨hr, hs, hkp, hl4, hd4⟩ := fin (some c) W3 hk3
        obtain ⟨n1, n2, hg2⟩ := grew hgr
        refine ⟨_, _, hr, hs, .inr ⟨rfl, more D', ⟨c, ?_, .inr (.inl rfl), .inr (.inr rfl), hl4, hd4⟩, hg2⟩⟩
        rw [hless D' n1 n2]
        exact (hIx c).same _ _ _ _ hi3 (hkp D' ((hIx c).lt _ _ _ hi3) n1)
      rintro e a3 W3 hp
      cases e with
      | normal =>
        obtain ⟨hk3, D', hi3, hgr⟩ := hp
        obtain ⟨hr, hs, hkp, hl4, hd4⟩ := fin none W3 hk3
        obtain ⟨n1, n2, hg2⟩ := grew hgr
        refine ⟨_, _, hr, hs, .inl ⟨rfl, more D', ⟨?_, .inr (.inl rfl), .inr (.inr rfl), hl4, hd4⟩, hg2⟩⟩
        rw [hless D' n1 n2]
        exact hI.same _ _ _ _ hi3 (hkp D' (hI.lt _ _ _ hi3) n1)
      | ret => exact leave .ret W3 hp
      | exit id => exact leave (.exit id) W3 hp
      | goto t => exact leave (.goto t) W3 hp
      | panic ch => exact hp.elim
      | outgrown => exact hp.elim
    | ret => exact he.elim
    | exit id => exact he.elim
    | goto t => exact he.elim
    | panic ch => exact he.elim
    | outgrown => exact he.elim
  -- behind the iterator
  have hRm : ∀ k, R k → ¬ more D k := fun k hk h => by
    have := hRl k hk
    rcases h with h | h | h
    · exact hRD k hk h
    · omega
    · omega
  have back : ∀ {D' : Nat → Prop}, Grew (more D) D' W1.heap.size → Grew D (less D') w.heap.size := fun {D'} hgr k hk => by
    rcases hgr k hk.1 with (e | e | e) | e
    · exact .inl e
    · exact absurd e hk.2.1
    · exact absurd e hk.2.2
    · right; omega
  have spared : ∀ {W2 : World} (o : Obj), Spared (more D) W1 W2 → Spared D w (W2.putObj l o) := fun {W2} o hs => by
    have k1 : Kept (fun k => k < w.heap.size ∧ ¬ D k) w W1 := Kept.ofBelow hB fun _ hk => hk.1
    have k2 : Kept (fun k => k < w.heap.size ∧ ¬ D k) W1 W2 := hs.mono fun k hk => ⟨by have := hk.1; omega, fun h => by
      have h1 := hk.1
      rcases h with h | h | h
      · exact hk.2 h
      · omega
      · omega⟩
    exact (k1.trans k2).trans (Kept.putObj _ _ _ _ (fun h => by have := h.1; omega) (fun k hk => by have := hk.1; have := hs.size; omega))
  refine (hseq l J Jx (more D) W1 hJ hJx (hR.trans (Kept.ofBelow hB hRl)) hRm hY hJ0).mono ?_
  rintro e W2 ⟨⟨v, rfl⟩, hs, (⟨xs, D', hS, ⟨hi, h1, h2, hl4, hd4⟩, hgr⟩ | ⟨pre, D', hSp, ⟨c, hi, h1, h2, hl4, hd4⟩, hgr⟩)⟩
  · have hnb : (rec .ready none).state ≠ .busy := by rw [hrec]; simp
    refine ⟨none, _, by have := run_endLoop (P := P) hl4 hnb; rw [hrec] at this; exact this, ?_⟩
    exact hdone dd (less D') xs _ (by omega) (fun h => h.2.2 rfl) hS (hI.same _ _ _ _ hi (Kept.putObj _ _ _ _ (fun h => h.2.1 rfl) (hI.lt _ _ _ hi))) (back hgr) (spared _ hs) ((World.putObj_heap_other (show dd ≠ l by omega)).trans hd4)
  · have hnb : (rec .done (some c)).state ≠ .busy := by rw [hrec]; simp
    refine ⟨some c, _, by have := run_endLoop (P := P) hl4 hnb; rw [hrec] at this; exact this, ?_⟩
    exact hstop dd c (less D') pre _ (by omega) (fun h => h.2.2 rfl) hSp ((hIx c).same _ _ _ _ hi (Kept.putObj _ _ _ _ (fun h => h.2.1 rfl) ((hIx c).lt _ _ _ hi))) (back hgr) (spared _ hs) ((World.putObj_heap_other (show dd ≠ l by omega)).trans hd4)
/-- A loop's record holds no octets. -/
theorem loop_noOct {W : World} {l : Nat} (h : ∃ r, W.heap[l]? = some (.loop r)) : NoOct W l := by
  obtain ⟨r, h⟩ := h
  intro i z e
  simp [World.cell?, h] at e
theorem only_of_kept {l : Nat} {A V : World} (h : Kept (fun k => k ≠ l) A V) : Only l A V := h.mono fun _ hk => hk.2
end Go.Proofs.YtndeknkfljnjoaaDoor
