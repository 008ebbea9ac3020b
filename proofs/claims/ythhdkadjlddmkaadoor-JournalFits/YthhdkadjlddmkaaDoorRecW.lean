/- Some texts of mine, one behind the other (joined by program). -/
import Derived.Test.YthhdkadjlddmkaaDoorKept
import Derived.RangeFuncNested
import Derived.RangeFuncBound
import Derived.RangeFuncCalls
import Derived.RangeFuncLeaves
import Derived.Shelf.Abstract
import Derived.OwnWalkIn
import Derived.Test.YthhdkadjlddmkaaDoorStrOct
import Derived.Test.YthhdkadjlddmkaaDoorWalkText4
import Derived.Lib.LazyBuf
import Derived.Deep.RegionHeld3
import Derived.TacticsInMore
import Derived.LoopNIn
import Derived.LoopIn
import Derived.Test.YthhdkadjlddmkaaDoorProg
import Derived.Test.YthhdkadjlddmkaaDoorMath
import Derived.Test.YthhdkadjlddmkaaDoorTools
import Derived.WalkKit
import Derived.Below
import Derived.Test.YthhdkadjlddmkaaDoorWalkRefPut6
import Derived.Test.YthhdkadjlddmkaaDoorWalkSeal
import Derived.Deep.DeepMust
import Derived.Test.YthhdkadjlddmkaaDoorCut6
import Derived.Test.YthhdkadjlddmkaaDoorAppOcts
import Derived.Maps.OwnIn

/- A range over a function whose iterator has memory of its own and may itself range over a function: a law of my own, by footprints (which blocks an invariant lies on). At the wide fence. Generic over the program. -/
namespace Go.Proofs.YthhdkadjlddmkaaDoor
open Go.RowKit
set_option linter.unusedVariables false

/-- An invariant that lies on the blocks D alone. -/
structure Local {α : Type} (J : (Nat → Prop) → α → World → Prop) : Prop where
  lt : ∀ D s W, J D s W → ∀ k, D k → k < W.heap.size
  same : ∀ D s W W', J D s W → Kept D W W' → J D s W'
/-- D' has, beside blocks of D, new ones alone. -/
def Grew (D D' : Nat → Prop) (n : Nat) : Prop := ∀ k, D' k → D k ∨ n ≤ k
theorem Grew.refl (D : Nat → Prop) (n : Nat) : Grew D D n := fun _ h => .inl h
theorem Grew.trans {D D' D'' : Nat → Prop} {n m : Nat} (h : Grew D D' n) (k : Grew D' D'' m) (hm : n ≤ m) : Grew D D'' n := fun j hj => by
  rcases k j hj with e | e
  · exact h j e
  · right; omega
/-- What is neither of D nor new is left alone. -/
abbrev Spared (D : Nat → Prop) (W W' : World) : Prop := Kept (fun k => k < W.heap.size ∧ ¬ D k) W W'
theorem Spared.trans {D D' : Nat → Prop} {A B C : World} (h : Spared D A B) (g : Grew D D' A.heap.size) (k : Spared D' B C) : Spared D A C :=
  Kept.trans h (Kept.mono k fun j hj => ⟨Nat.lt_of_lt_of_le hj.1 h.size, fun e => by
    rcases g j e with e | e
    · exact hj.2 e
    · omega⟩)
theorem Spared.ofBelow {D : Nat → Prop} {A B : World} (h : Below A.heap.size A B) : Spared D A B := Kept.ofBelow h fun _ hk => hk.1
theorem Kept.putObj (K : Nat → Prop) (W : World) (l : Nat) (o : Obj) (h : ¬ K l) (hlt : ∀ k, K k → k < W.heap.size) : Kept K W (W.putObj l o) :=
  (Kept.refl _ W).grown (grownBy_putObj' W l o) fun k hk => ⟨hlt k hk, fun e => h (by cases e; exact hk)⟩

/-- What one round of a loop does, whatever the footprint is. -/
def YieldSep {α : Type} (P : Program) (l : Nat) (encs : α → Array Value) (Ok : List α → α → World → Prop) (J Jx : (Nat → Prop) → List α → World → Prop) : Prop :=
  ∀ D pre x W, J D pre W → Ok pre x W → ∀ m, YieldAt Fence.wide m P l (encs x) W fun e W' => Spared D W W' ∧
    ((e = .returned (.bool true) ∧ ∃ D', J D' (pre ++ [x]) W' ∧ Grew D D' W.heap.size) ∨ (e = .returned (.bool false) ∧ ∃ D', Jx D' (pre ++ [x]) W' ∧ Grew D D' W.heap.size))
/-- An iterator's contract: it reads the blocks R, leaves alone what is not its own, and hands out what Ok tells. -/
def SeqSep {α : Type} (P : Program) (g : Nat) (lb : Array Value) (encs : α → Array Value) (Ok : List α → α → World → Prop) (R : Nat → Prop) (S Sp : List α → Prop) (W0 : World) : Prop :=
  ∀ (l : Nat) (J Jx : (Nat → Prop) → List α → World → Prop) (D : Nat → Prop) (W : World), Local J → Local Jx → Kept R W0 W → (∀ k, R k → ¬ D k) → YieldSep P l encs Ok J Jx → J D [] W →
    Calls P g (#[.func (.yield l) #[] #[]] ++ lb) W fun e W' => (∃ v, e = .returned v) ∧ Spared D W W' ∧
      ((∃ xs D', S xs ∧ J D' xs W' ∧ Grew D D' W.heap.size) ∨ (∃ pre D', Sp pre ∧ Jx D' pre W' ∧ Grew D D' W.heap.size))

/-- What a round's body owes: V the world where it begins. -/
def sepPost {α : Type} (D : Nat → Prop) (n : Nat) (I : (Nat → Prop) → List α → World → Prop) (Ix : Code → (Nat → Prop) → List α → World → Prop) (xs : List α) (V : World) : Exit → Act → World → Prop
  | .normal, _, W' => Kept (fun k => k < n ∧ ¬ D k) V W' ∧ ∃ D', I D' xs W' ∧ Grew D D' n
  | .ret, _, W' => Kept (fun k => k < n ∧ ¬ D k) V W' ∧ ∃ D', Ix .ret D' xs W' ∧ Grew D D' n
  | .exit id, _, W' => Kept (fun k => k < n ∧ ¬ D k) V W' ∧ ∃ D', Ix (.exit id) D' xs W' ∧ Grew D D' n
  | .goto t, _, W' => Kept (fun k => k < n ∧ ¬ D k) V W' ∧ ∃ D', Ix (.goto t) D' xs W' ∧ Grew D D' n
  | .panic _, _, _ => False
  | .outgrown, _, _ => False

/-- The law: 'for x := range g { .. }' in a function that stands in no round. -/
theorem wpIn_rangeSep {α : Type} {P : Program} {g : Operand} {ps : Array Tmp} {assign body : Code} {Q : Exit → Act → World → Prop} {a : Act} {w : World} {n : Nat}
    {gf : Nat} {lb : Array Value} (hg : a.eval g = .func (.func gf) #[] lb) (eg : ∀ args w, (callFunc gf args).run P w = .ok (.enter gf args) w)
    {encs : α → Array Value} {Ok : List α → α → World → Prop} {R : Nat → Prop} {S Sp : List α → Prop} {W0 : World} (hseq : SeqSep P gf lb encs Ok R S Sp W0) (hR : Kept R W0 w) (hRl : ∀ k, R k → k < w.heap.size) (hps : ∀ x, (encs x).size = ps.size)
    (I : (Nat → Prop) → List α → World → Prop) (Ix : Code → (Nat → Prop) → List α → World → Prop) (hI : Local I) (hIx : ∀ c, Local (Ix c)) (D : Nat → Prop) (hRD : ∀ k, R k → ¬ D k) (h0 : I D [] w)
    (hround : ∀ (l : Nat) (D1 : Nat → Prop) (pre : List α) (x : α) (W : World), w.heap.size ≤ l → ¬ D1 l → (∃ r, W.heap[l]? = some (.loop r)) → I D1 pre W → Ok pre x W →
      assign.wpIn (Fence.wide.inRound l) (n - 1 - 1) P (Exit.then (fun a' Wa => Below W.heap.size W Wa ∧ ∀ V, Kept (fun k => k ≠ l) Wa V → V.heap.size = Wa.heap.size → body.wpIn (Fence.wide.inRound l) (n - 1 - 1) P (sepPost D1 W.heap.size I Ix (pre ++ [x]) V) a' V) (fun _ _ _ => False))
        { tmps := (ps.zip (encs x)).foldl (fun t (p, v) => t.setIfInBounds p v) a.tmps, defers := [] } W)
    (hdone : ∀ (dd : Nat) (D1 : Nat → Prop) (xs : List α) (W : World), w.heap.size ≤ dd → ¬ D1 dd → S xs → I D1 xs W → Grew D D1 w.heap.size → Spared D w W → W.heap[dd]? = some (.deferred (some [])) → Q .normal { a with defers := { target := .collected dd, args := #[] } :: a.defers } W)
    (hstop : ∀ (dd : Nat) (c : Code) (D1 : Nat → Prop) (pre : List α) (W : World), w.heap.size ≤ dd → ¬ D1 dd → Sp pre → Ix c D1 pre W → Grew D D1 w.heap.size → Spared D w W → W.heap[dd]? = some (.deferred (some [])) → c.wpIn Fence.wide n P Q { a with defers := { target := .collected dd, args := #[] } :: a.defers } W) :
    (Code.rangeFunc g ps assign body).wpIn Fence.wide n P Q a w := by
  refine wpIn_rangeFunc ?_
  intro fn hfn
  obtain ⟨dd, hdd⟩ : ∃ dd, dd = w.heap.size := ⟨_, rfl⟩
  obtain ⟨l, hl⟩ : ∃ l, l = w.heap.size + 1 := ⟨_, rfl⟩
  -- the record, in its two states of rest
  obtain ⟨rec, hrec⟩ : ∃ rec : LoopState → Option Code → Loop, rec = fun st pe => { state := st, pending := pe, fn, tmps := a.tmps, params := ps, assign, body, defers := dd } := ⟨_, rfl⟩
  obtain ⟨W1, hW1⟩ : ∃ W1, W1 = (w.alloc (.deferred (some []))).alloc (.loop (rec .ready none)) := ⟨_, rfl⟩
  have hsz : W1.heap.size = w.heap.size + 2 := by rw [hW1]; simp
  have hB : Below w.heap.size w W1 := by rw [hW1]; exact ((Below.refl _ w).alloc (Nat.le_refl _) _).alloc (by simp) _
  have hL1 : W1.heap[l]? = some (.loop (rec .ready none)) := by
    rw [hW1, hl]; have := World.alloc_heap_new (w.alloc (.deferred (some []))) (.loop (rec .ready none)); rwa [World.size_alloc] at this
  have hK1 : W1.heap[dd]? = some (.deferred (some [])) := by
    rw [hW1, hdd]; exact (Below.heap_alloc _ _ _ (by simp)).trans (World.alloc_heap_new w _)
  have hDlt : ∀ k, D k → k < w.heap.size := hI.lt D [] w h0
  -- the footprint with the two blocks beside it
  let less : (Nat → Prop) → Nat → Prop := fun E k => E k ∧ k ≠ l ∧ k ≠ dd
  let more : (Nat → Prop) → Nat → Prop := fun E k => E k ∨ k = l ∨ k = dd
  have hless : ∀ E : Nat → Prop, ¬ E l → ¬ E dd → less (more E) = E := fun E h1 h2 => by
    funext k
    refine propext ⟨fun ⟨e, e1, e2⟩ => ?_, fun e => ⟨.inl e, fun e1 => h1 (e1 ▸ e), fun e1 => h2 (e1 ▸ e)⟩⟩
    rcases e with e | e | e
    · exact e
    · exact absurd e e1
    · exact absurd e e2
  let J : (Nat → Prop) → List α → World → Prop := fun E pre W => I (less E) pre W ∧ E l ∧ E dd ∧ W.heap[l]? = some (.loop (rec .ready none)) ∧ W.heap[dd]? = some (.deferred (some []))
  let Jx : (Nat → Prop) → List α → World → Prop := fun E pre W => ∃ c, Ix c (less E) pre W ∧ E l ∧ E dd ∧ W.heap[l]? = some (.loop (rec .done (some c))) ∧ W.heap[dd]? = some (.deferred (some []))
  have ltOf : ∀ {W : World} {b : Nat} {o : Obj}, W.heap[b]? = some o → b < W.heap.size := fun h => (Array.getElem?_eq_some_iff.1 h).1
  have hlt3 : ∀ (E : Nat → Prop) (W : World), (∀ k, less E k → k < W.heap.size) → l < W.heap.size → dd < W.heap.size → ∀ k, E k → k < W.heap.size := fun E W h h1 h2 k hk => by
    by_cases e1 : k = l
    · omega
    · by_cases e2 : k = dd
      · omega
      · exact h k ⟨hk, e1, e2⟩
  have hJ : Local J := ⟨fun E s W hs => hlt3 E W (hI.lt _ _ _ hs.1) (ltOf hs.2.2.2.1) (ltOf hs.2.2.2.2), fun E s W W' hs hk =>
    ⟨hI.same _ _ _ _ hs.1 (hk.mono fun _ h => h.1), hs.2.1, hs.2.2.1, (hk.block l hs.2.1).trans hs.2.2.2.1, (hk.block dd hs.2.2.1).trans hs.2.2.2.2⟩⟩
  have hJx : Local Jx := ⟨fun E s W ⟨c, hs⟩ => hlt3 E W ((hIx c).lt _ _ _ hs.1) (ltOf hs.2.2.2.1) (ltOf hs.2.2.2.2), fun E s W W' ⟨c, hs⟩ hk =>
    ⟨c, (hIx c).same _ _ _ _ hs.1 (hk.mono fun _ h => h.1), hs.2.1, hs.2.2.1, (hk.block l hs.2.1).trans hs.2.2.2.1, (hk.block dd hs.2.2.1).trans hs.2.2.2.2⟩⟩
  have hnl : ¬ D l := fun h => by have := hDlt l h; omega
  have hnd : ¬ D dd := fun h => by have := hDlt dd h; omega
  have hJ0 : J (more D) [] W1 := by
    refine ⟨?_, .inr (.inl rfl), .inr (.inr rfl), hL1, hK1⟩
    rw [hless D hnl hnd]
    exact hI.same _ _ _ _ h0 (Kept.ofBelow hB hDlt)
  refine ⟨l, [{ target := .collected dd, args := #[] }], W1, { target := .fn (.func gf) lb, args := #[.func (.yield l) #[] #[]] }, W1, gf, #[.func (.yield l) #[] #[]] ++ lb, W1, ?_, ?_, fun _ _ => trivial, ?_, fun h => by simp [Fence.wide] at h, callsIn_wide.2 ?_⟩
  · rw [hW1, hrec, hl, hdd]; exact run_enterLoop_outer _ _ _ _ _
  · simp only [resolve, hg]
    simp [go_sem]
  · simp [invoke, go_sem, eg]
  -- one round
  have hY : YieldSep P l encs Ok J Jx := by
    rintro E pre x W ⟨hi, hEl, hEd, hLW, hKW⟩ hok m
    have hlW := ltOf hLW
    have hdW := ltOf hKW
    have hy := run_yield (P := P) (args := encs x) hLW (by rw [hrec]; exact hps x)
    rw [hrec] at hy
    refine ⟨fn, _, assign, body, hy, ?_⟩
    have anyDepth : ∀ {f tmps R}, RoundIn Fence.wide (n - 1 - 1) P l f tmps assign body W R → RoundIn Fence.wide m P l f tmps assign body W R := fun ⟨h1, h2⟩ => ⟨h1, fun c cs _ => h2 c cs (room_wide _)⟩
    refine anyDepth (roundIn_of_wpIn hfn (wpIn_mono (hround l (less E) pre x W (by omega) (fun h => h.2.1 rfl) ⟨_, hLW⟩ hi hok) ?_))
    intro e a' Wa he
    cases e with
    | normal =>
      obtain ⟨hWa, hbody⟩ := he
      have hLa : Wa.heap[l]? = some (.loop (rec .ready none)) := (hWa.block l hlW).trans hLW
      have hKa : Wa.heap[dd]? = some (.deferred (some [])) := (hWa.block dd hdW).trans hKW
      refine ⟨_, run_beginRound hLa (by rw [hrec]), ?_⟩
      obtain ⟨V, hV⟩ : ∃ V, V = Wa.putObj l (.loop { rec .ready none with state := .busy }) := ⟨_, rfl⟩
      have hVs : V.heap.size = Wa.heap.size := by rw [hV]; simp
      have hVk : Kept (fun k => k ≠ l) Wa V := by
        rw [hV]
        have := grownBy_putObj' Wa l (.loop { rec .ready none with state := .busy })
        refine ⟨this.os, this.tape, this.output, this.size, fun k hk => World.putObj_heap_other hk⟩
      have hLV : V.heap[l]? = some (.loop { rec .ready none with state := .busy }) := by rw [hV]; exact World.putObj_heap_same (ltOf hLa)
      have hKV : V.heap[dd]? = some (.deferred (some [])) := (hVk.block dd (show dd ≠ l by omega)).trans hKa
      rw [← hV]
      have hsize : W.heap.size ≤ V.heap.size := by have := hWa.size; omega
      have fin : ∀ (jump : Option Code) (W3 : World), Kept (fun k => k < W.heap.size ∧ ¬ less E k) V W3 →
          (Instr.endRound l jump).run P W3 = .ok (.bool jump.isNone) (W3.putObj l (.loop (rec (if jump.isNone then .ready else .done) jump))) ∧
          Spared E W (W3.putObj l (.loop (rec (if jump.isNone then .ready else .done) jump))) ∧
          (∀ E', (∀ k, E' k → k < W3.heap.size) → ¬ E' l → Kept E' W3 (W3.putObj l (.loop (rec (if jump.isNone then .ready else .done) jump)))) ∧
          (W3.putObj l (.loop (rec (if jump.isNone then .ready else .done) jump))).heap[l]? = some (.loop (rec (if jump.isNone then .ready else .done) jump)) ∧
          (W3.putObj l (.loop (rec (if jump.isNone then .ready else .done) jump))).heap[dd]? = some (.deferred (some [])) := fun jump W3 hk3 => by
        have hl3 := (hk3.block l ⟨hlW, fun h => h.2.1 rfl⟩).trans hLV
        have hd3 := (hk3.block dd ⟨hdW, fun h => h.2.2 rfl⟩).trans hKV
        have hrun := run_endRound (P := P) jump hl3
        rw [hrec] at hrun
        refine ⟨by rw [hrec]; exact hrun, ?_, fun E' h1 h2 => Kept.putObj E' _ _ _ h2 h1, World.putObj_heap_same (ltOf hl3), (World.putObj_heap_other (show dd ≠ l by omega)).trans hd3⟩
        have hs3 : W.heap.size ≤ W3.heap.size := Nat.le_trans hsize hk3.size
        have k1 : Kept (fun k => k < W.heap.size ∧ ¬ E k) W Wa := Kept.ofBelow hWa fun _ hk => hk.1
        have k2 : Kept (fun k => k < W.heap.size ∧ ¬ E k) Wa V := hVk.mono fun k hk e => hk.2 (e ▸ hEl)
        have k3 : Kept (fun k => k < W.heap.size ∧ ¬ E k) V W3 := hk3.mono fun k hk => ⟨hk.1, fun e => hk.2 e.1⟩
        exact ((k1.trans k2).trans k3).trans (Kept.putObj _ _ _ _ (fun h => h.2 hEl) (fun k hk => by have := hk.1; omega))
      have grew : ∀ {D' : Nat → Prop}, Grew (less E) D' W.heap.size → ¬ D' l ∧ ¬ D' dd ∧ Grew E (more D') W.heap.size := fun {D'} hgr => by
        refine ⟨fun h => ?_, fun h => ?_, fun k hk => ?_⟩
        · rcases hgr l h with e | e
          · exact e.2.1 rfl
          · omega
        · rcases hgr dd h with e | e
          · exact e.2.2 rfl
          · omega
        · rcases hk with hk | rfl | rfl
          · rcases hgr k hk with e | e
            · exact .inl e.1
            · exact .inr e
          · exact .inl hEl
          · exact .inl hEd
      refine wpIn_mono (hbody V hVk hVs) ?_
      have leave : ∀ (c : Code) (W3 : World), (Kept (fun k => k < W.heap.size ∧ ¬ less E k) V W3 ∧ ∃ D', Ix c D' (pre ++ [x]) W3 ∧ Grew (less E) D' W.heap.size) →
          ∃ v w', (Instr.endRound l (some c)).run P W3 = .ok v w' ∧ (Spared E W w' ∧ ((Ending.returned v = .returned (.bool true) ∧ ∃ D', J D' (pre ++ [x]) w' ∧ Grew E D' W.heap.size) ∨ (Ending.returned v = .returned (.bool false) ∧ ∃ D', Jx D' (pre ++ [x]) w' ∧ Grew E D' W.heap.size))) := fun c W3 ⟨hk3, D', hi3, hgr⟩ => by
        obtain ⟨hr, hs, hkp, hl4, hd4⟩ := fin (some c) W3 hk3
        obtain ⟨n1, n2, hg2⟩ := grew hgr
        refine ⟨_, _, hr, hs, .inr ⟨rfl, more D', ⟨c, ?_, .inr (.inl rfl), .inr (.inr rfl), hl4, hd4⟩, hg2⟩⟩
        rw [hless D' n1 n2]
        exact (hIx c).same _ _ _ _ hi3 (hkp D' ((hIx c).lt _ _ _ hi3) n1)
      rintro e a3 W3 hp
      cases e with
      | normal =>
        obtain ⟨hk3, D', hi3, hgr⟩ := hp
        obtain ⟨hr, hs, hkp, hl4, hd4⟩ := fin none W3 hk3
        obtain ⟨n1, n2, hg2⟩ := grew hgr
        refine ⟨_, _, hr, hs, .inl ⟨rfl, more D', ⟨?_, .inr (.inl rfl), .inr (.inr rfl), hl4, hd4⟩, hg2⟩⟩
        rw [hless D' n1 n2]
        exact hI.same _ _ _ _ hi3 (hkp D' (hI.lt _ _ _ hi3) n1)
      | ret => exact leave .ret W3 hp
      | exit id => exact leave (.exit id) W3 hp
      | goto t => exact leave (.goto t) W3 hp
      | panic ch => exact hp.elim
      | outgrown => exact hp.elim
    | ret => exact he.elim
    | exit id => exact he.elim
    | goto t => exact he.elim
    | panic ch => exact he.elim
    | outgrown => exact he.elim
  -- behind the iterator
  have hRm : ∀ k, R k → ¬ more D k := fun k hk h => by
    have := hRl k hk
    rcases h with h | h | h
    · exact hRD k hk h
    · omega
    · omega
  have back : ∀ {D' : Nat → Prop}, Grew (more D) D' W1.heap.size → Grew D (less D') w.heap.size := fun {D'} hgr k hk => by
    rcases hgr k hk.1 with (e | e | e) | e
    · exact .inl e
    · exact absurd e hk.2.1
    · exact absurd e hk.2.2
    · right; omega
  have spared : ∀ {W2 : World} (o : Obj), Spared (more D) W1 W2 → Spared D w (W2.putObj l o) := fun {W2} o hs => by
    have k1 : Kept (fun k => k < w.heap.size ∧ ¬ D k) w W1 := Kept.ofBelow hB fun _ hk => hk.1
    have k2 : Kept (fun k => k < w.heap.size ∧ ¬ D k) W1 W2 := hs.mono fun k hk => ⟨by have := hk.1; omega, fun h => by
      have h1 := hk.1
      rcases h with h | h | h
      · exact hk.2 h
      · omega
      · omega⟩
    exact (k1.trans k2).trans (Kept.putObj _ _ _ _ (fun h => by have := h.1; omega) (fun k hk => by have := hk.1; have := hs.size; omega))
  refine (hseq l J Jx (more D) W1 hJ hJx (hR.trans (Kept.ofBelow hB hRl)) hRm hY hJ0).mono ?_
  rintro e W2 ⟨⟨v, rfl⟩, hs, (⟨xs, D', hS, ⟨hi, h1, h2, hl4, hd4⟩, hgr⟩ | ⟨pre, D', hSp, ⟨c, hi, h1, h2, hl4, hd4⟩, hgr⟩)⟩
  · have hnb : (rec .ready none).state ≠ .busy := by rw [hrec]; simp
    refine ⟨none, _, by have := run_endLoop (P := P) hl4 hnb; rw [hrec] at this; exact this, ?_⟩
    exact hdone dd (less D') xs _ (by omega) (fun h => h.2.2 rfl) hS (hI.same _ _ _ _ hi (Kept.putObj _ _ _ _ (fun h => h.2.1 rfl) (hI.lt _ _ _ hi))) (back hgr) (spared _ hs) ((World.putObj_heap_other (show dd ≠ l by omega)).trans hd4)
  · have hnb : (rec .done (some c)).state ≠ .busy := by rw [hrec]; simp
    refine ⟨some c, _, by have := run_endLoop (P := P) hl4 hnb; rw [hrec] at this; exact this, ?_⟩
    exact hstop dd c (less D') pre _ (by omega) (fun h => h.2.2 rfl) hSp ((hIx c).same _ _ _ _ hi (Kept.putObj _ _ _ _ (fun h => h.2.1 rfl) ((hIx c).lt _ _ _ hi))) (back hgr) (spared _ hs) ((World.putObj_heap_other (show dd ≠ l by omega)).trans hd4)
/-- A loop's record holds no octets. -/
theorem loop_noOct {W : World} {l : Nat} (h : ∃ r, W.heap[l]? = some (.loop r)) : NoOct W l := by
  obtain ⟨r, h⟩ := h
  intro i z e
  simp [World.cell?, h] at e
theorem only_of_kept {l : Nat} {A V : World} (h : Kept (fun k => k ≠ l) A V) : Only l A V := h.mono fun _ hk => hk.2
end Go.Proofs.YthhdkadjlddmkaaDoor

/- Contracts of bytes.Clone, bytes.Equal, bytes.HasPrefix over octets; the first part of octets. -/
namespace Go.Proofs.YthhdkadjlddmkaaDoor
open Go.RowKit
set_option linter.unusedVariables false

theorem Octs.nil (w : World) : Octs w (.slice none 0 0) [] := ⟨by simp, by simp [maxLen], none, 0, rfl, Nat.le_refl _, by simp [maxLen], .inl ⟨rfl, rfl⟩⟩
/-- 'x[:n]'. -/
theorem Octs.cut {w : World} {a : Option Addr} {l cap n : Nat} {zs : List Nat} (h : Octs w (.slice a l cap) zs) (hn : n ≤ l) : Octs w (.slice a n cap) (zs.take n) := by
  have hl := h.lenEq
  by_cases h0 : 0 < l
  · obtain ⟨b, off, rfl, -, -⟩ := h.addr h0
    exact h.front hn
  · obtain rfl : n = 0 := by omega
    obtain rfl : l = 0 := by omega
    obtain rfl : zs = [] := List.eq_nil_of_length_eq_zero hl
    exact h
theorem Octs.capLe {w : World} {a : Option Addr} {l cap : Nat} {zs : List Nat} (h : Octs w (.slice a l cap) zs) : l ≤ cap ∧ cap ≤ maxLen := by
  obtain ⟨h1, h2, ad, c, e, h3, h4, h5⟩ := h
  cases e
  exact ⟨h3, h4⟩

set_option maxHeartbeats 400000 in
theorem clone_octs (v : Value) (zs : List Nat) (w : World) (h : Octs w v zs) (hlen : zs.length ≤ 100000) :
    Calls Tryd.prog 74 #[v] w fun e w' => ∃ u, e = .returned u ∧ Octs w' u zs ∧ Below w.heap.size w w' := by
  obtain ⟨i0, hi, hz0, hz1, hz2⟩ := info_parts Tryd.infoU8'
  have HO : Hid (Octs w v zs) := h
  obtain ⟨a, cap, rfl⟩ := h.shape
  clear h
  have heq : (binOp .eql 32 (.slice a zs.length cap) (.slice none 0 0)).run Tryd.prog w = .ok (.bool a.isNone) w := run_eql_slice_nil (P := Tryd.prog) w _ _ a _ _ Tryd.underlying32
  cases a with
  | none =>
    have h0 : zs = [] := by
      obtain ⟨h1, h2, ad, c, e, h3, h4, h5⟩ := HO.out
      cases e
      rcases h5 with ⟨_, rfl⟩ | ⟨ad, e, _⟩
      · exact List.eq_nil_of_length_eq_zero (by omega)
      · cases e
    subst h0
    simp only [List.length_nil, Option.isNone_none] at heq
    clear HO
    go_enter Tryd.func74, Tryd.ntmps74
    go_wp2
    go_ret
    exact ⟨_, rfl, Octs.nil _, Below.refl _ _⟩
  | some ad =>
    go_enter Tryd.func74, Tryd.ntmps74
    go_wp2_with (at_builtin; refine wpList_append_octs _ rfl _ _ 32 rfl w.heap.size 5 i0 Tryd.underlying32 hi hz0 hz1 hz2 _ 0 [] rfl (World.ownsRow_made _ #[] 0 (Nat.le_refl _) (by decide) rfl) _ zs rfl (HO.out.alloc _) ?d1 ?d2 ?_)
    case d1 => omega
    case d2 => simp
    intro v2 w2 hown2 hg2
    have HB2 : Hid (Below w.heap.size w w2) := ((Below.refl _ _).alloc (Nat.le_refl _) _).trans (below_grown (World.ownsRow_made _ #[] 0 (Nat.le_refl _) (by decide) rfl) hg2 (by simp))
    have HO2 : Hid (Octs w2 v2 zs) := Octs.owned (by simpa using hown2) HO.out.small
    clear hown2 hg2
    go_wp2
    go_ret
    exact ⟨_, rfl, HO2.out, HB2.out⟩
theorem equal_octs (v u : Value) (xs ys : List Nat) (w : World) (hv : Octs w v xs) (hu : Octs w u ys) :
    Calls Tryd.prog 69 #[v, u] w fun e w' => e = .returned (.bool (decide (xs = ys))) ∧ w' = w := by
  have c1 := conv_octs (P := Tryd.prog) hv 32 5 9 Tryd.underlying32 Tryd.underlying5 Tryd.underlying9
  have c2 := conv_octs (P := Tryd.prog) hu 32 5 9 Tryd.underlying32 Tryd.underlying5 Tryd.underlying9
  obtain ⟨b, hb⟩ : ∃ b, b = decide (xs = ys) := ⟨_, rfl⟩
  have hq := str_eqv xs ys hv.small hu.small
  rw [← hb] at hq ⊢
  clear hb hv hu
  go_enter Tryd.func69, Tryd.ntmps69
  go_wp2
  go_ret
  exact ⟨rfl, rfl⟩
def isPre (ys xs : List Nat) : Bool := decide (xs.take ys.length = ys)
set_option maxHeartbeats 400000 in
theorem hasPrefix_octs (v u : Value) (xs ys : List Nat) (w : World) (hv : Octs w v xs) (hu : Octs w u ys) :
    Calls Tryd.prog 62 #[v, u] w fun e w' => e = .returned (.bool (isPre ys xs)) ∧ w' = w := by
  have HV : Hid (Octs w v xs) := hv
  have HU : Hid (Octs w u ys) := hu
  have hl1 := hv.len
  have hl2 := hu.len
  obtain ⟨a, cap, rfl⟩ := hv.shape
  obtain ⟨a2, cap2, rfl⟩ := hu.shape
  have hc := hv.capLe
  clear hv hu
  by_cases hle : ys.length ≤ xs.length
  · have h1 : (ys.length : Int) ≤ xs.length := by omega
    have h2 : (ys.length : Int) ≤ cap := by omega
    have h3 : (0 : Int) ≤ ys.length := by omega
    go_enter Tryd.func62, Tryd.ntmps62
    go_wp2_with fail
    refine (equal_octs _ _ _ _ _ (HV.out.cut hle) HU.out).mono ?_
    rintro e w1 ⟨rfl, rfl⟩
    go_wp2
    go_ret
    exact ⟨rfl, rfl⟩
  · have h1 : ¬ (ys.length : Int) ≤ xs.length := by omega
    have HP : Hid (isPre ys xs = false) := decide_eq_false fun e => hle (by have := congrArg List.length e; rw [List.length_take] at this; omega)
    go_enter Tryd.func62, Tryd.ntmps62
    go_wp2
    go_ret
    rw [HP.out]
    exact ⟨rfl, rfl⟩
end Go.Proofs.YthhdkadjlddmkaaDoor

/- Contract of slices.Chunk over octets and of its iterator, by footprints. -/
namespace Go.Proofs.YthhdkadjlddmkaaDoor
open Go.RowKit Go.Shelf
set_option linter.unusedVariables false
attribute [local go_sem] Oper.semAt_some

theorem chunk_v (w : World) (v : Value) (a : Option Addr) (len cap : Nat) (hv : v = .slice a len cap) (n : Nat) (hn : 1 ≤ n) :
    Calls Tryd.prog 45 #[v, .int .i64 (n : Nat)] w fun e w' => e = .returned (.func (.func 63) #[] #[.pointer (some ⟨w.heap.size, 0, none⟩), .pointer (some ⟨w.heap.size + 1, 0, none⟩)]) ∧ w' = (w.alloc (.cells #[v] 32)).alloc (.cells #[.int .i64 (n : Nat)] 3) := by
  subst hv
  have h1 : ¬ (n : Int) < 1 := by omega
  go_enter Tryd.func45, Tryd.ntmps45
  go_wp2
  go_ret
  exact ⟨rfl, rfl⟩

/-- How long the k-th chunk is. -/
def chunkLen (N L k : Nat) : Nat := min N (L - N * k)
def chunkV (b off N L k : Nat) : Value := .slice (some ⟨b, off + N * k, none⟩) (chunkLen N L k) (chunkLen N L k)
def chunks (N L : Nat) : Nat := (L + (N - 1)) / N
theorem chunks_lt {N L k : Nat} (hN : 1 ≤ N) : N * k < L ↔ k < chunks N L := by
  unfold chunks
  rw [Nat.lt_div_iff_mul_lt (by omega), Nat.mul_comm k N]
  omega
theorem octs_chunk {w : World} {b off L cap : Nat} {zs : List Nat} (h : Octs w (.slice (some ⟨b, off, none⟩) L cap) zs) (N k : Nat) (hk : N * k < L) : Octs w (chunkV b off N L k) ((zs.drop (N * k)).take N) := by
  have hl := h.lenEq
  have h1 := h.back (n := N * k) (x := off + N * k) (by omega) (.inl rfl)
  have h2 := h1.front (n := chunkLen N L k) (by unfold chunkLen; omega)
  have e : (zs.drop (N * k)).take (chunkLen N L k) = (zs.drop (N * k)).take N := by
    unfold chunkLen
    by_cases hc : N ≤ L - N * k
    · rw [Nat.min_eq_left hc]
    · rw [Nat.min_eq_right (by omega), List.take_of_length_le (by rw [List.length_drop]; omega), List.take_of_length_le (by rw [List.length_drop]; omega)]
  rw [e] at h2
  -- the capacity is cut too
  obtain ⟨q1, q2, ad, c, eq, q3, q4, q5⟩ := h2
  simp only [Value.slice.injEq] at eq
  obtain ⟨eq1, -, -⟩ := eq
  subst eq1
  have hlen : ((zs.drop (N * k)).take N).length = chunkLen N L k := by rw [List.length_take, List.length_drop, hl]; rfl
  refine ⟨q1, q2, some ⟨b, off + N * k, none⟩, chunkLen N L k, ?_, ?_, ?_, ?_⟩
  · rw [hlen]; rfl
  · rw [hlen]; exact Nat.le_refl _
  · have : chunkLen N L k ≤ L := by unfold chunkLen; omega
    have := h.capLe
    omega
  · rcases q5 with ⟨e1, _⟩ | q5
    · cases e1
    · exact .inr q5

set_option maxRecDepth 20000 in
set_option maxHeartbeats 1000000 in
theorem chunk_seq (Bs Bn b off N L cap : Nat) (a : Option Addr) (hN : 1 ≤ N) (hN2 : N ≤ 100000) (hL : L ≤ 1000000) (hcap : L ≤ cap) (ha : 0 < L → a = some ⟨b, off, none⟩) (W0 : World) (R : Nat → Prop) (hRs : R Bs) (hRn : R Bn) (hRl : ∀ k, R k → k < W0.heap.size)
    (hBs : W0.cell? ⟨Bs, 0, none⟩ = some (.slice a L cap)) (hBn : W0.cell? ⟨Bn, 0, none⟩ = some (.int .i64 (N : Nat))) :
    SeqSep Tryd.prog 63 #[.pointer (some ⟨Bs, 0, none⟩), .pointer (some ⟨Bn, 0, none⟩)] (fun k => #[chunkV b off N L k]) (fun pre k W => k = pre.length ∧ N * k < L ∧ Kept R W0 W) R (fun xs => xs = List.range (chunks N L)) (fun _ => True) W0 := by
  intro l J Jx D W hJ hJx hR hRD hY h0
  have HJ : Hid (Local J) := hJ
  have HY : Hid (YieldSep Tryd.prog l (fun k => #[chunkV b off N L k]) (fun pre k W => k = pre.length ∧ N * k < L ∧ Kept R W0 W) J Jx) := hY
  have HRD : Hid (∀ k, R k → ¬ D k) := hRD
  have HRR : Hid (R Bs ∧ R Bn) := ⟨hRs, hRn⟩
  have HRk : Hid (∀ wr, Spared D W wr → Kept R W0 wr.drew) := fun wr h => (hR.trans (h.mono fun k hk => ⟨Nat.lt_of_lt_of_le (hRl k hk) hR.size, hRD k hk⟩)).drew
  have HBs : Hid (W.cell? ⟨Bs, 0, none⟩ = some (.slice a L cap)) := (hR.cell (p := ⟨Bs, 0, none⟩) hRs).trans hBs
  have HBn : Hid (W.cell? ⟨Bn, 0, none⟩ = some (.int .i64 (N : Nat))) := (hR.cell (p := ⟨Bn, 0, none⟩) hRn).trans hBn
  have HLs : Hid (Bs < W.heap.size ∧ Bn < W.heap.size) := by
    refine ⟨?_, ?_⟩
    · obtain ⟨_, _, _, h⟩ := cells_of_cell HBs.out; exact lt_of_heap h
    · obtain ⟨_, _, _, h⟩ := cells_of_cell HBn.out; exact lt_of_heap h
  have HH0 : Hid (J D [] W) := h0
  clear hJ hJx hR hRD hY h0 hBs hBn hRs hRn hRl
  refine (callsIn_wide (n := 3)).1 (callsIn_of_wp (F := Fence.wide) (n := 3) Tryd.func63 rfl trivial ?_ rfl)
  simp only [Tryd.ntmps63, List.size_toArray, List.length_cons, List.length_nil, Nat.reduceAdd, Nat.reduceSub, Array.replicate_succ, Array.replicate_zero, List.push_toArray, List.append_toArray, List.nil_append, List.cons_append]
  gi_wp2
  gi_loopw [4] (fun i wr => ∃ (k : Nat) (D1 : Nat → Prop), N * k < L + N ∧ i = .int .i64 ((N * k : Nat) : Int) ∧ Hid (J D1 (List.range k) wr) ∧ Hid (Grew D D1 W.heap.size) ∧ Hid (Spared D W wr)) (fun i _ => L + N - (intOf i).toNat)
  case atStart => exact ⟨0, D, by omega, by simp, HH0.out, Grew.refl _ _, Kept.refl _ _⟩
  case round =>
    obtain ⟨k, D1, hk, rfl, HJS, HGR, HSP⟩ := hrel
    have HSz : Hid (W.heap.size ≤ wr.heap.size) := HSP.out.size
    have c1 : wr.cell? ⟨Bs, 0, none⟩ = some (.slice a L cap) := (HSP.out.cell (p := ⟨Bs, 0, none⟩) ⟨HLs.out.1, HRD.out _ HRR.out.1⟩).trans HBs.out
    have c2 : wr.cell? ⟨Bn, 0, none⟩ = some (.int .i64 (N : Nat)) := (HSP.out.cell (p := ⟨Bn, 0, none⟩) ⟨HLs.out.2, HRD.out _ HRR.out.2⟩).trans HBn.out
    by_cases hlt : N * k < L
    · obtain rfl := ha (by omega)
      obtain ⟨E, hE⟩ : ∃ E, E = chunkLen N L k := ⟨_, rfl⟩
      have hsucc : N * (k + 1) = N * k + N := Nat.mul_succ N k
      have HJd : Hid (J D1 (List.range k) wr.drew) := HJ.out.same _ _ _ _ HJS.out (Kept.refl _ _).drew
      obtain ⟨fn, tmps, assign, body, hy, hRd⟩ := HY.out D1 (List.range k) k wr.drew HJd.out ⟨by simp, hlt, HRk.out _ HSP.out⟩ 2
      have HSucc : Hid (List.range (k + 1) = List.range k ++ [k]) := List.range_succ
      dsimp only [chunkV] at hy
      rw [← hE] at hy
      have hE' : E = min N (L - N * k) := hE
      generalize hi : N * k = i at *
      have hE1 : 1 ≤ E ∧ i + E ≤ L ∧ E ≤ N := by omega
      obtain ⟨H, hH⟩ : ∃ H, H = i + E := ⟨_, rfl⟩
      have d1 : (i : Int) < (L : Nat) := by omega
      have d2 : (0 : Int) ≤ (i : Nat) := by omega
      have d3 : (i : Int) ≤ (L : Nat) := by omega
      have d4 : ¬ cap = i := by omega
      by_cases hmin : L - i < N
      · have dA : L - i = E := by omega
        rw [dA] at hmin
        have dA1 : (E : Int) < (N : Nat) := by omega
        have dA2 : (if (E : Int) < (N : Nat) then (E : Int) else (N : Nat)) = (E : Nat) := if_pos dA1
        have d6 : (i : Int) + (E : Nat) = (H : Nat) := by omega
        have d7 : IntKind.i64.wrap (H : Nat) = (H : Nat) := by rw [IntKind.wrap_i64]; omega
        have d8 : (i : Int) ≤ (H : Nat) := by omega
        have d9 : (H : Int) ≤ (cap : Nat) := by omega
        have d10 : ¬ H = i := by omega
        have d11 : H - i = E := by omega
        obtain ⟨G, hG⟩ : ∃ G, G = i + N := ⟨_, rfl⟩
        have d12 : (i : Int) + (N : Nat) = (G : Nat) := by omega
        have d13 : IntKind.i64.wrap (G : Nat) = (G : Nat) := by rw [IntKind.wrap_i64]; omega
        have HSu : Hid (N * (k + 1) = G) := by unfold Hid; omega
        have HG : Hid (i < G ∧ G < L + N) := by unfold Hid; omega
        clear hH hG hsucc hi
        have HR : Hid _ := hRd
        clear hRd hE hE'
        gi_wp2
        refine wpIn_wide.2 ?_
        go_region_held3 (fun w' => w'.cell? ⟨Bs, 0, none⟩ = some (.slice (some ⟨b, off, none⟩) L cap) ∧ w'.cell? ⟨Bn, 0, none⟩ = some (.int .i64 (N : Nat))) (exact ⟨c1, c2⟩) (fail)
        have c1d : wr.drew.cell? ⟨Bs, 0, none⟩ = some (.slice (some ⟨b, off, none⟩) L cap) := c1
        gi_wp2
        refine RoundIn.mono HR.out ?_
        rintro e W3 ⟨hs3, (⟨rfl, D2, hJ3, hg3⟩ | ⟨rfl, D2, hJ3, hg3⟩)⟩
        · have HJ3 : Hid (J D2 (List.range (k + 1)) W3) := by rw [HSucc.out]; exact hJ3
          have HSP3 : Hid (Spared D W W3) := Spared.trans HSP.out HGR.out (Kept.undrew (a := wr) hs3)
          have HGR3 : Hid (Grew D D2 W.heap.size) := HGR.out.trans hg3 HSz.out
          have c3 : W3.cell? ⟨Bn, 0, none⟩ = some (.int .i64 (N : Nat)) := (HSP3.out.cell (p := ⟨Bn, 0, none⟩) ⟨HLs.out.2, HRD.out _ HRR.out.2⟩).trans HBn.out
          clear hs3 hJ3 hg3
          gi_wp2
          go_roundw
          case rel => exact ⟨k + 1, D2, by rw [HSu.out]; exact HG.out.2, by rw [HSu.out], HJ3.out, HGR3.out, HSP3.out⟩
          case measure => have := HG.out; simp [intOf]; omega
        · have HSP3 : Hid (Spared D W W3) := Spared.trans HSP.out HGR.out (Kept.undrew (a := wr) hs3)
          have HGR3 : Hid (Grew D D2 W.heap.size) := HGR.out.trans hg3 HSz.out
          clear hs3 hg3
          gi_wp2
          refine bodyPost_ret (results_none rfl _ _ _) rfl ?_
          exact ⟨⟨_, rfl⟩, HSP3.out, .inr ⟨_, D2, trivial, hJ3, HGR3.out⟩⟩
      · obtain rfl : E = N := by omega
        have dB1 : (if ((L - i : Nat) : Int) < (E : Nat) then ((L - i : Nat) : Int) else (E : Nat)) = (E : Nat) := if_neg (by omega)
        have dB2 : (if L - i < E then ((L - i : Nat) : Int) else (E : Nat)) = (E : Nat) := if_neg hmin
        have dB3 : ¬ ((L - i : Nat) : Int) < (E : Nat) := by omega
        have d6 : (i : Int) + (E : Nat) = (H : Nat) := by omega
        have d7 : IntKind.i64.wrap (H : Nat) = (H : Nat) := by rw [IntKind.wrap_i64]; omega
        have d8 : (i : Int) ≤ (H : Nat) := by omega
        have d9 : (H : Int) ≤ (cap : Nat) := by omega
        have d10 : ¬ H = i := by omega
        have d11 : H - i = E := by omega
        obtain ⟨G, hG⟩ : ∃ G, G = i + E := ⟨_, rfl⟩
        have d12 : (i : Int) + (E : Nat) = (G : Nat) := by omega
        have d13 : IntKind.i64.wrap (G : Nat) = (G : Nat) := by rw [IntKind.wrap_i64]; omega
        have HSu : Hid (E * (k + 1) = G) := by unfold Hid; omega
        have HG : Hid (i < G ∧ G < L + E) := by unfold Hid; omega
        clear hH hG hsucc hi
        have HR : Hid _ := hRd
        clear hRd hE hE'
        gi_wp2
        refine wpIn_wide.2 ?_
        go_region_held3 (fun w' => w'.cell? ⟨Bs, 0, none⟩ = some (.slice (some ⟨b, off, none⟩) L cap) ∧ w'.cell? ⟨Bn, 0, none⟩ = some (.int .i64 (E : Nat))) (exact ⟨c1, c2⟩) (fail)
        have c1d : wr.drew.cell? ⟨Bs, 0, none⟩ = some (.slice (some ⟨b, off, none⟩) L cap) := c1
        gi_wp2
        refine RoundIn.mono HR.out ?_
        rintro e W3 ⟨hs3, (⟨rfl, D2, hJ3, hg3⟩ | ⟨rfl, D2, hJ3, hg3⟩)⟩
        · have HJ3 : Hid (J D2 (List.range (k + 1)) W3) := by rw [HSucc.out]; exact hJ3
          have HSP3 : Hid (Spared D W W3) := Spared.trans HSP.out HGR.out (Kept.undrew (a := wr) hs3)
          have HGR3 : Hid (Grew D D2 W.heap.size) := HGR.out.trans hg3 HSz.out
          have c3 : W3.cell? ⟨Bn, 0, none⟩ = some (.int .i64 (E : Nat)) := (HSP3.out.cell (p := ⟨Bn, 0, none⟩) ⟨HLs.out.2, HRD.out _ HRR.out.2⟩).trans HBn.out
          clear hs3 hJ3 hg3
          gi_wp2
          go_roundw
          case rel => exact ⟨k + 1, D2, by rw [HSu.out]; exact HG.out.2, by rw [HSu.out, show H = G by omega], HJ3.out, HGR3.out, HSP3.out⟩
          case measure => have := HG.out; simp [intOf]; omega
        · have HSP3 : Hid (Spared D W W3) := Spared.trans HSP.out HGR.out (Kept.undrew (a := wr) hs3)
          have HGR3 : Hid (Grew D D2 W.heap.size) := HGR.out.trans hg3 HSz.out
          clear hs3 hg3
          gi_wp2
          refine bodyPost_ret (results_none rfl _ _ _) rfl ?_
          exact ⟨⟨_, rfl⟩, HSP3.out, .inr ⟨_, D2, trivial, hJ3, HGR3.out⟩⟩
    · have HCH : Hid (List.range k = List.range (chunks N L)) := by
        have h1 : ¬ k < chunks N L := fun e => hlt ((chunks_lt hN).2 e)
        have h2 : k ≤ chunks N L := by
          by_cases h0 : k = 0
          · omega
          · have : N * (k - 1) < L := by
              have : N * k = N * (k - 1) + N := by rw [← Nat.mul_succ]; congr 1; omega
              omega
            have := (chunks_lt hN).1 this
            omega
        unfold Hid
        rw [show k = chunks N L by omega]
      have d1 : ¬ ((N * k : Nat) : Int) < (L : Nat) := by omega
      generalize N * k = i at *
      gi_wp2
      go_end0
      exact ⟨⟨_, rfl⟩, HSP.out, .inl ⟨D1, by rw [← HCH.out]; exact HJS.out, HGR.out⟩⟩
end Go.Proofs.YthhdkadjlddmkaaDoor

/- Contracts of the two 'Up' functions of layer 1: what each call returns, for every pair of ints. -/
namespace Go.Proofs.YthhdkadjlddmkaaDoor
open Go.RowKit
set_option linter.unusedVariables false


def upI (n to : Int) : Int :=
  if n < 1 ∨ to < 1 then 0
  else if 0 < n % to then (if 4611686018427387904 - (to - n % to) < n then 0 else n + (to - n % to))
  else if 4611686018427387904 < n then 0 else n

theorem upI_a (n t : Int) (h : n < 1 ∨ t < 1) : upI n t = 0 := by unfold upI; rw [if_pos h]
theorem upI_b (n t : Int) (h : 1 ≤ n) (h2 : 1 ≤ t) (h3 : 0 < n % t) (h4 : 4611686018427387904 - (t - n % t) < n) : upI n t = 0 := by
  unfold upI; rw [if_neg (by omega), if_pos h3, if_pos h4]
theorem upI_c (n t : Int) (h : 1 ≤ n) (h2 : 1 ≤ t) (h3 : 0 < n % t) (h4 : n ≤ 4611686018427387904 - (t - n % t)) : upI n t = n + (t - n % t) := by
  unfold upI; rw [if_neg (by omega), if_pos h3, if_neg (by omega)]
theorem upI_d (n t : Int) (h : 1 ≤ n) (h2 : 1 ≤ t) (h3 : n % t ≤ 0) (h4 : 4611686018427387904 < n) : upI n t = 0 := by
  unfold upI; rw [if_neg (by omega), if_neg (by omega), if_pos h4]
theorem upI_e (n t : Int) (h : 1 ≤ n) (h2 : 1 ≤ t) (h3 : n % t ≤ 0) (h4 : n ≤ 4611686018427387904) : upI n t = n := by
  unfold upI; rw [if_neg (by omega), if_neg (by omega), if_neg (by omega)]

theorem up_any (n t : Int) (w : World) (hn1 : -9223372036854775808 ≤ n) (hn2 : n ≤ 9223372036854775807) (ht1 : -9223372036854775808 ≤ t) (ht2 : t ≤ 9223372036854775807) :
    Calls Tryd.prog 36 #[.int .i64 n, .int .i64 t] w fun e w' => e = .returned (.int .i64 (upI n t)) ∧ w' = w := by
  by_cases h1 : n < 1
  · go_enter Tryd.func36, Tryd.ntmps36
    go_wp2
    go_ret
    exact ⟨ret_int (upI_a n t (Or.inl h1)).symm, rfl⟩
  · by_cases h2 : t < 1
    · go_enter Tryd.func36, Tryd.ntmps36
      go_wp2
      go_ret
      exact ⟨ret_int (upI_a n t (Or.inr h2)).symm, rfl⟩
    · have hr0 : 0 ≤ n % t := Int.emod_nonneg _ (by omega)
      have hr1 : n % t < t := Int.emod_lt_of_pos _ (by omega)
      by_cases h3 : 0 < n % t
      · by_cases h4 : 4611686018427387904 - (t - n % t) < n
        · go_enter Tryd.func36, Tryd.ntmps36
          go_wp2
          go_ret
          exact ⟨ret_int (upI_b n t h1 h2 h3 h4).symm, rfl⟩
        · go_enter Tryd.func36, Tryd.ntmps36
          go_wp2
          go_ret
          exact ⟨ret_int (upI_c n t h1 h2 h3 h4).symm, rfl⟩
      · by_cases h4 : 4611686018427387904 < n
        · go_enter Tryd.func36, Tryd.ntmps36
          go_wp2
          go_ret
          exact ⟨ret_int (upI_d n t h1 h2 h3 h4).symm, rfl⟩
        · go_enter Tryd.func36, Tryd.ntmps36
          go_wp2
          go_ret
          exact ⟨ret_int (upI_e n t h1 h2 h3 h4).symm, rfl⟩

end Go.Proofs.YthhdkadjlddmkaaDoor

/- Contracts of the program's 'within' and 'Sectors' of layer 6. -/
namespace Go.Proofs.YthhdkadjlddmkaaDoor
open Go.RowKit
set_option linter.unusedVariables false

def wi6 (n l m : Int) : Bool := decide (l ≤ n ∧ n ≤ m)
theorem within6 (n l m : Int) (w : World) : Calls Tryd.prog 35 #[.int .i64 n, .int .i64 l, .int .i64 m] w fun e w' => e = .returned (.bool (wi6 n l m)) ∧ w' = w := by
  by_cases h1 : l ≤ n
  · by_cases h2 : n ≤ m
    · go_enter Tryd.func35, Tryd.ntmps35
      go_wp2
      go_ret
      exact ⟨ret_bool (show wi6 n l m = true from decide_eq_true ⟨h1, h2⟩).symm, rfl⟩
    · go_enter Tryd.func35, Tryd.ntmps35
      go_wp2
      go_ret
      exact ⟨ret_bool (show wi6 n l m = false from decide_eq_false fun e => by omega).symm, rfl⟩
  · go_enter Tryd.func35, Tryd.ntmps35
    go_wp2
    go_ret
    exact ⟨ret_bool (show wi6 n l m = false from decide_eq_false fun e => by omega).symm, rfl⟩

theorem sectors6 (n : Int) (w : World) (h1 : -9223372036854775808 ≤ n) (h2 : n ≤ 9223372036854775807) : Calls Tryd.prog 24 #[.int .i64 n] w fun x w' => x = .returned (.int .i64 (if 1 ≤ n ∧ n ≤ 65000 then (n + 111) / 112 + 1 else 0)) ∧ w' = w := by
  by_cases h : 1 ≤ n ∧ n ≤ 65000
  · have HD : Hid (wi6 n 1 65000 = true) := decide_eq_true h
    rw [if_pos h]
    have eu : upI n 112 = 112 * ((n + 111) / 112) := by
      by_cases h3 : 0 < n % 112
      · rw [upI_c n 112 h.1 (by decide) h3 (by omega)]; omega
      · rw [upI_e n 112 h.1 (by decide) (by omega) (by omega)]; omega
    obtain ⟨k, hk⟩ : ∃ k, k = (n + 111) / 112 := ⟨_, rfl⟩
    have hk2 : 1 ≤ k ∧ k ≤ 600 := by omega
    rw [← hk] at eu
    have HU : Hid (upI n 112 = 112 * k) := eu
    have e1 : (112 * k).tdiv 112 = k := by rw [Int.mul_tdiv_cancel_left _ (by decide)]
    have e2 : IntKind.i64.wrap k = k := by rw [IntKind.wrap_i64]; omega
    have e3 : IntKind.i64.wrap (k + 1) = k + 1 := by rw [IntKind.wrap_i64]; omega
    have HK : Hid (k = (n + 111) / 112) := hk
    clear eu hk
    go_enter Tryd.func24, Tryd.ntmps24
    go_wp2_with fail
    refine (within6 n 1 65000 w).mono ?_
    rintro e w1 ⟨rfl, rfl⟩
    rw [HD.out]
    go_wp2_with fail
    refine (up_any n 112 w1 h1 h2 (by decide) (by decide)).mono ?_
    rintro e w2 ⟨rfl, rfl⟩
    rw [HU.out]
    go_wp2
    go_ret
    rw [← HK.out]
    exact ⟨rfl, rfl⟩
  · have HD : Hid (wi6 n 1 65000 = false) := decide_eq_false h
    rw [if_neg h]
    go_enter Tryd.func24, Tryd.ntmps24
    go_wp2_with fail
    refine (within6 n 1 65000 w).mono ?_
    rintro e w1 ⟨rfl, rfl⟩
    rw [HD.out]
    go_wp2
    go_ret
    exact ⟨rfl, rfl⟩
end Go.Proofs.YthhdkadjlddmkaaDoor

/- Contract of the program's 'right' of a part. -/
namespace Go.Proofs.YthhdkadjlddmkaaDoor
open Go.RowKit
set_option linter.unusedVariables false

theorem wi6_btw (n l m : Int) : wi6 n l m = btw n l m := rfl
set_option maxHeartbeats 1000000 in
theorem right6 (p : Part) (v : Value) (w : World) (ho : Octs w v p.data) : Calls Tryd.prog 50 #[pval p v] w fun e w' => e = .returned (.bool (okP p)) ∧ Below w.heap.size w w' := by
  have hlen := ho.len
  obtain ⟨a, cap, rfl⟩ := ho.shape
  clear ho
  have HB : Hid (okP p = (btw p.epoch 1 2147483648 && (btw p.number 0 2147483648 && (btw p.index 0 65535 && decide (p.data.length ≤ 112))))) := rfl
  go_enter Tryd.func50, Tryd.ntmps50
  go_wp2_with fail
  refine (within6 p.epoch 1 2147483648 _).mono ?_
  rintro e w0 ⟨rfl, rfl⟩
  rw [wi6_btw]
  by_cases h0 : btw p.epoch 1 2147483648 = true
  case neg =>
    have h0' : btw p.epoch 1 2147483648 = false := by simpa using h0
    rw [h0']
    go_wp2
    go_ret
    exact ⟨ret_bool (by rw [HB.out, h0']; rfl), (Below.refl _ _).alloc (Nat.le_refl _) _⟩
  rw [h0]
  go_wp2_with fail
  refine (within6 p.number 0 2147483648 _).mono ?_
  rintro e w1 ⟨rfl, rfl⟩
  rw [wi6_btw]
  by_cases h1 : btw p.number 0 2147483648 = true
  case neg =>
    have h1' : btw p.number 0 2147483648 = false := by simpa using h1
    rw [h1']
    go_wp2
    go_ret
    exact ⟨ret_bool (by rw [HB.out, h0, h1']; rfl), (Below.refl _ _).alloc (Nat.le_refl _) _⟩
  rw [h1]
  go_wp2_with fail
  refine (within6 p.index 0 65535 _).mono ?_
  rintro e w2 ⟨rfl, rfl⟩
  rw [wi6_btw]
  by_cases h2 : btw p.index 0 65535 = true
  case neg =>
    have h2' : btw p.index 0 65535 = false := by simpa using h2
    rw [h2']
    go_wp2
    go_ret
    exact ⟨ret_bool (by rw [HB.out, h0, h1, h2']; rfl), (Below.refl _ _).alloc (Nat.le_refl _) _⟩
  rw [h2]
  by_cases h3 : p.data.length ≤ 112
  · have h3' : (p.data.length : Int) ≤ 112 := by omega
    go_wp2
    go_ret
    exact ⟨ret_bool (by rw [HB.out, h0, h1, h2, decide_eq_true h3]; rfl), (Below.refl _ _).alloc (Nat.le_refl _) _⟩
  · have h3' : ¬ (p.data.length : Int) ≤ 112 := by omega
    go_wp2
    go_ret
    exact ⟨ret_bool (by rw [HB.out, h0, h1, h2, decide_eq_false h3, decide_eq_false (by omega)]; rfl), (Below.refl _ _).alloc (Nat.le_refl _) _⟩
end Go.Proofs.YthhdkadjlddmkaaDoor

/- Contract of the program's 'Put' of a part. Written by mk_prog6.py. -/
namespace Go.Proofs.YthhdkadjlddmkaaDoor
open Go.RowKit
set_option linter.unusedVariables false

theorem Tryd.zero124 (w : World) : (zeroValue 100).run Tryd.prog w = .ok (.agg (u8s (zl 124)).toArray) w := by
  rw [← rep_u8s]; exact (zero_of_info (n := 124) (by kernel_rfl)).1 w
theorem Tryd.sizeU86 : (Tryd.prog.info? 5).map (·.size) = some 1 := by kernel_rfl
theorem row_same6 {w w' : World} {b B : Nat} {o : Obj} (h : w.heap[b]? = some o) (hb : Below B w w') (hB : b < B) : w'.heap[b]? = some o := (hb.block b hB).trans h

theorem put6_no (p : Part) (v : Value) (w : World) (hok : okP p = false) (ho : Octs w v p.data) : Calls Tryd.prog 38 #[pval p v] w fun e w' => e = .returned (.tuple #[.slice none 0 0, .int .i64 2]) ∧ Below w.heap.size w w' := by
  have HO : Hid (Octs w v p.data) := ho
  clear ho
  go_enter Tryd.func38, Tryd.ntmps38
  go_wp2_with fail
  refine (right6 p v _ (HO.out.alloc _)).mono ?_
  rintro e w1 ⟨rfl, hb1⟩
  have HB1 : Hid (Below w.heap.size w w1) := ((Below.refl _ _).alloc (Nat.le_refl _) _).trans (hb1.mono (by simp))
  clear hb1
  rw [hok]
  go_wp2
  go_ret2
  exact ⟨rfl, HB1.out⟩
theorem body6_splice (p : Part) (h : p.data.length ≤ 112) : splice (splice (zl 124) 0 (pre6 p)) 12 p.data = body6 p := by
  have h1 := pre6_length p
  unfold body6
  generalize pre6 p = F at *
  generalize p.data = G at *
  have e1 : splice (zl 124) 0 F = F ++ List.replicate 112 0 := by simp [splice, zl, h1]
  rw [e1]
  have e3 : F.take 12 = F := List.take_of_length_le (by omega)
  have e4 : (F ++ List.replicate 112 0).drop (12 + G.length) = List.replicate (112 - G.length) 0 := by
    rw [List.drop_append, List.drop_eq_nil_of_le (by omega), h1, List.drop_replicate, List.nil_append]
    congr 1; omega
  have e5 : (F ++ List.replicate 112 0).take 12 = F := by rw [List.take_append_of_le_length (by omega), e3]
  unfold splice
  rw [e5, e4]
  rfl
theorem pre6_eq (p : Part) (h : p.data.length ≤ 112) (m : Nat) (hm : headOct p.foot = m) (hs : m < 256) : octZ (m : Int) 1 ++ octZ p.epoch 4 ++ octZ p.number 4 ++ octZ p.index 2 ++ octZ (p.data.length : Int) 1 = pre6 p := by
  rw [octZ_one m hs]
  simp [pre6, hm]

set_option maxHeartbeats 800000 in
set_option maxRecDepth 20000 in
theorem put6_true (e n i : Int) (d : List Nat) (v : Value) (w : World) (hok : okP ⟨true, e, n, i, d⟩ = true) (ho : Octs w v d) (ht : Steps w) : Calls Tryd.prog 38 #[pval ⟨true, e, n, i, d⟩ v] w fun x w' => ∃ u, x = .returned (.tuple #[u, .int .i64 0]) ∧ Octs w' u (sect6 ⟨true, e, n, i, d⟩) ∧ Below w.heap.size w w' := by
  have HO : Hid (Octs w v d) := ho
  have HT : Hid (Steps w) := ht
  have HK : Hid (okP ⟨true, e, n, i, d⟩ = true) := hok
  have hd : d.length ≤ 112 := (okP_right.1 hok).data
  obtain ⟨a, cap, rfl⟩ := ho.shape
  obtain ⟨A2, hA2⟩ : ∃ A, A = octZ 70 1 := ⟨_, rfl⟩
  obtain ⟨A3, hA3⟩ : ∃ A, A = A2 ++ octZ e 4 := ⟨_, rfl⟩
  obtain ⟨A4, hA4⟩ : ∃ A, A = A3 ++ octZ n 4 := ⟨_, rfl⟩
  obtain ⟨A5, hA5⟩ : ∃ A, A = A4 ++ octZ i 2 := ⟨_, rfl⟩
  obtain ⟨A6, hA6⟩ : ∃ A, A = A5 ++ octZ d.length 1 := ⟨_, rfl⟩
  have HL1 : Hid (([] : List Nat).length = 0) := rfl
  have HL2 : Hid (A2.length = 1) := by unfold Hid; rw [hA2, octZ_length]
  have HL3 : Hid (A3.length = 5) := by unfold Hid; rw [hA3, List.length_append, octZ_length, HL2.out]
  have HL4 : Hid (A4.length = 9) := by unfold Hid; rw [hA4, List.length_append, octZ_length, HL3.out]
  have HL5 : Hid (A5.length = 11) := by unfold Hid; rw [hA5, List.length_append, octZ_length, HL4.out]
  have HL6 : Hid (A6.length = 12) := by unfold Hid; rw [hA6, List.length_append, octZ_length, HL5.out]
  have HE6 : Hid (A6 = pre6 ⟨true, e, n, i, d⟩) := by unfold Hid; rw [hA6, hA5, hA4, hA3, hA2]; exact pre6_eq ⟨true, e, n, i, d⟩ hd 70 rfl (by decide)
  have HA2 : Hid ([] ++ octZ 70 1 = A2) := by unfold Hid; rw [hA2]; rfl
  have HA3 : Hid (A2 ++ octZ e 4 = A3) := hA3.symm
  have HA4 : Hid (A3 ++ octZ n 4 = A4) := hA4.symm
  have HA5 : Hid (A4 ++ octZ i 2 = A5) := hA5.symm
  have HA6 : Hid (A5 ++ octZ d.length 1 = A6) := hA6.symm
  have hz124 := Tryd.zero124
  obtain ⟨Z2, hZ2⟩ : ∃ Z, Z = zl 124 := ⟨_, rfl⟩
  rw [← hZ2] at hz124
  have HZ2 : Hid (Z2 = zl 124) := hZ2
  clear ho ht hok hA2 hA3 hA4 hA5 hA6 hZ2
  go_enter Tryd.func38, Tryd.ntmps38
  go_wp2_with fail
  refine (right6 ⟨true, e, n, i, d⟩ _ _ (HO.out.alloc _)).mono ?_
  rintro x W ⟨rfl, hb⟩
  have F1 : Hid (PartAt W w.heap.size ⟨true, e, n, i, d⟩ (.slice a d.length cap)) := PartAt.same (heap_alloc_new w _) hb (by simp)
  have FB : Hid (Below w.heap.size w W) := ((Below.refl _ _).alloc (Nat.le_refl _) _).trans (hb.mono (by simp))
  have hx : w.heap.size < W.heap.size := F1.out.lt
  clear hb
  rw [HK.out]
  obtain ⟨c0, c1, c2, c3, c4⟩ := F1.out.cells
  have HD : Hid (∀ w', Below W.heap.size W w' → w'.cell? ⟨w.heap.size, 1, none⟩ = some (.int .i64 e) ∧ w'.cell? ⟨w.heap.size, 2, none⟩ = some (.int .i64 n) ∧ w'.cell? ⟨w.heap.size, 3, none⟩ = some (.int .i64 i) ∧ w'.cell? ⟨w.heap.size, 4, none⟩ = some (.slice a d.length cap)) := fun w' h => ⟨(h.cell (p := ⟨w.heap.size, 1, none⟩) hx).trans c1, (h.cell (p := ⟨w.heap.size, 2, none⟩) hx).trans c2, (h.cell (p := ⟨w.heap.size, 3, none⟩) hx).trans c3, (h.cell (p := ⟨w.heap.size, 4, none⟩) hx).trans c4⟩
  go_wp2_with fail
  clear c0 c1 c2 c3 c4
  go_region_held3 (fun w' => w'.cell? ⟨w.heap.size, 1, none⟩ = some (.int .i64 e) ∧ w'.cell? ⟨w.heap.size, 2, none⟩ = some (.int .i64 n) ∧ w'.cell? ⟨w.heap.size, 3, none⟩ = some (.int .i64 i) ∧ w'.cell? ⟨w.heap.size, 4, none⟩ = some (.slice a d.length cap)) (first | exact HD.out _ (Below.refl _ _).drew | exact HD.out _ HB6.out | exact HD.out _ HB5.out | exact HD.out _ HB4.out | exact HD.out _ HB3.out | exact HD.out _ HB2.out | exact HD.out _ HB1.out) (first
     | (go_at_call 52; refine (wnum_any HW5.out d.length 1 (by rw [HL5.out]; decide)).mono ?_; rintro e w6 ⟨rfl, hw6, hb6⟩
        rw [show cl 1 8 = 1 by decide, HA6.out] at hw6
        have HB6 : Hid (Below W.heap.size W w6) := HB5.out.trans hb6
        have HW6 : Hid (IsW W.heap.size w6 W.heap.size A6) := hw6
        clear hw6 hb6)
     | (go_at_call 52; refine (wnum_any HW4.out i 2 (by rw [HL4.out]; decide)).mono ?_; rintro e w5 ⟨rfl, hw5, hb5⟩
        rw [show cl 2 8 = 2 by decide, HA5.out] at hw5
        have HB5 : Hid (Below W.heap.size W w5) := HB4.out.trans hb5
        have HW5 : Hid (IsW W.heap.size w5 W.heap.size A5) := hw5
        clear hw5 hb5)
     | (go_at_call 52; refine (wnum_any HW3.out n 4 (by rw [HL3.out]; decide)).mono ?_; rintro e w4 ⟨rfl, hw4, hb4⟩
        rw [show cl 4 8 = 4 by decide, HA4.out] at hw4
        have HB4 : Hid (Below W.heap.size W w4) := HB3.out.trans hb4
        have HW4 : Hid (IsW W.heap.size w4 W.heap.size A4) := hw4
        clear hw4 hb4)
     | (go_at_call 52; refine (wnum_any HW2.out e 4 (by rw [HL2.out]; decide)).mono ?_; rintro e w3 ⟨rfl, hw3, hb3⟩
        rw [show cl 4 8 = 4 by decide, HA3.out] at hw3
        have HB3 : Hid (Below W.heap.size W w3) := HB2.out.trans hb3
        have HW3 : Hid (IsW W.heap.size w3 W.heap.size A3) := hw3
        clear hw3 hb3)
     | (go_at_call 52; refine (wnum_any HW1.out 70 1 (by rw [HL1.out]; decide)).mono ?_; rintro e w2 ⟨rfl, hw2, hb2⟩
        rw [show cl 1 8 = 1 by decide, HA2.out] at hw2
        have HB2 : Hid (Below W.heap.size W w2) := HB1.out.trans hb2
        have HW2 : Hid (IsW W.heap.size w2 W.heap.size A2) := hw2
        clear hw2 hb2)
     | (go_at_call 51; refine (write_new _).mono ?_; rintro e w1 ⟨rfl, hw1, hb1⟩
        have HB1 : Hid (Below W.heap.size W w1) := below_undrew hb1
        have HW1 : Hid (IsW W.heap.size w1 W.heap.size []) := hw1
        clear hb1 hw1))
  have FS6 : Hid (PartAt w6 w.heap.size ⟨true, e, n, i, d⟩ (.slice a d.length cap)) := F1.out.same HB6.out hx
  clear HD HW1 HW2 HW3 HW4 HW5 HB1 HB2 HB3 HB4 HB5
  go_wp2_with fail
  have HW7 : Hid (IsW W.heap.size (w6.alloc (.cells (u8s Z2).toArray 100)) W.heap.size A6) := by
    obtain ⟨u, hu⟩ := HW6.out
    exact ⟨u, hu.kept ((Below.refl _ _).alloc (Nat.le_refl _) _)⟩
  have HB7 : Hid (Below w6.heap.size w6 (w6.alloc (.cells (u8s Z2).toArray 100))) := (Below.refl _ _).alloc (Nat.le_refl _) _
  have HG7 : Hid ((w6.alloc (.cells (u8s Z2).toArray 100)).heap[w6.heap.size]? = some (.cells (u8s Z2).toArray 100 (0, 0))) := heap_alloc_new _ _
  generalize w6.alloc (.cells (u8s Z2).toArray 100) = W7 at HW7 HB7 HG7 ⊢
  have HZL : Hid (Z2.length = 124) := by unfold Hid; rw [HZ2.out, zl_length]
  go_region_law (first
    | (refine step_copy_octs (by rfl) _ _ 32 32 (by rfl) 5 Tryd.underlying32 Tryd.sizeU86 w6.heap.size 0 124 124 (by rfl) _ A6 (by rfl) HO8.out Z2 100 HG8.out (by rw [HL6.out]; decide) (by rw [HL6.out, HZL.out]; decide) w6.heap.size w6 HB8.out (Nat.le_refl _) ?_
       intro w9 HG9 HB9 HO9)
    | (go_simp; go_at_call 53; refine (wbytes_any HW7.out.drew (by rw [HL6.out]; decide)).mono ?_; rintro e w8 ⟨v8, rfl, ho8, hb8⟩
       have HO8 : Hid (Octs w8 v8 A6) := ho8
       have hb8' : Below W7.heap.size W7 w8 := below_undrew hb8
       have HB8 : Hid (Below w6.heap.size w6 w8) := HB7.out.trans (hb8'.mono HB7.out.size)
       have HG8 : Hid (w8.heap[w6.heap.size]? = some (.cells (u8s Z2).toArray 100 (0, 0))) := row_same6 HG7.out hb8' (lt_of_heap HG7.out)
       clear ho8 hb8 hb8'))
  all_goals
    have FS9 : Hid (PartAt w9 w.heap.size ⟨true, e, n, i, d⟩ (.slice a d.length cap)) := FS6.out.same HB9.out FS6.out.lt
    have FB9 : Hid (Below w.heap.size w w9) := (FB.out.trans (HB6.out.mono FB.out.size)).trans (HB9.out.mono (by have := FB.out.size; have := HB6.out.size; omega))
    have HO9' : Hid (Octs w9 (.slice a d.length cap) d) := HO.out.kept FB9.out
    have hw6 : w.heap.size ≤ w6.heap.size := by have := FB.out.size; have := HB6.out.size; omega
    obtain ⟨C1, hC1⟩ : ∃ C, C = splice Z2 0 A6 := ⟨_, rfl⟩
    rw [← hC1] at HG9
    have HC1 : Hid (C1 = splice (zl 124) 0 (pre6 ⟨true, e, n, i, d⟩)) := by unfold Hid; rw [hC1, HZ2.out, HE6.out]
    have HC1L : Hid (C1.length = 124) := by unfold Hid; rw [hC1, length_splice _ _ _ (by rw [HZL.out, HL6.out]; decide), HZL.out]
    clear hC1 HO9 HO8 HG8 HB8 HG7 HB7 HW7
    obtain ⟨c0, c1, c2, c3, c4⟩ := FS9.out.cells
    clear c0 c1 c2 c3
    go_wp2_with fail
    go_region_law (first
      | (refine step_copy_octs (by rfl) _ _ 32 32 (by rfl) 5 Tryd.underlying32 Tryd.sizeU86 w6.heap.size 12 112 112 (by rfl) _ d (by rfl) HO9'.out.drew C1 100 HG9.out hd (by rw [HC1L.out]; omega) w6.heap.size w9 (Below.refl _ _).drew (Nat.le_refl _) ?_
         intro w10 HG10 HB10 HO10))
    all_goals
      obtain ⟨Bd, hBd⟩ : ∃ B, B = splice C1 12 d := ⟨_, rfl⟩
      rw [← hBd] at HG10
      have HBd : Hid (Bd = body6 ⟨true, e, n, i, d⟩) := by unfold Hid; rw [hBd, HC1.out]; exact body6_splice ⟨true, e, n, i, d⟩ hd
      have HBL : Hid (Bd.length = 124) := by unfold Hid; rw [HBd.out, body6_length _ hd]
      have HBS : Hid (∀ z ∈ Bd, z < 256) := by unfold Hid; rw [HBd.out]; exact body6_small _ HO.out.small
      have HX : Hid (Bd ++ octN (crcSum Bd) = sect6 ⟨true, e, n, i, d⟩) := by unfold Hid; rw [HBd.out]; rfl
      have FB10 : Hid (Below w.heap.size w w10) := FB9.out.trans (HB10.out.mono hw6)
      have HT10 : Hid (Steps w10) := HT.out.below FB10.out
      clear hBd c4 HO10
      go_wp2_with fail
      refine (seal_octs _ Bd _ (octs_row0 HG10.out HBS.out HBL.out (by decide)) (by rw [HBL.out]; decide) HT10.out).mono ?_
      rintro x w13 ⟨a13, c13, rfl, ho13, hb13⟩
      rw [HX.out] at ho13
      have HO13 : Hid (Octs w13 _ (sect6 ⟨true, e, n, i, d⟩)) := ho13
      have HB13 : Hid (Below w.heap.size w w13) := FB10.out.trans (hb13.mono FB10.out.size)
      clear ho13 hb13
      go_wp2
      go_ret2
      exact ⟨_, rfl, HO13.out, HB13.out⟩

set_option maxHeartbeats 800000 in
set_option maxRecDepth 20000 in
theorem put6_false (e n i : Int) (d : List Nat) (v : Value) (w : World) (hok : okP ⟨false, e, n, i, d⟩ = true) (ho : Octs w v d) (ht : Steps w) : Calls Tryd.prog 38 #[pval ⟨false, e, n, i, d⟩ v] w fun x w' => ∃ u, x = .returned (.tuple #[u, .int .i64 0]) ∧ Octs w' u (sect6 ⟨false, e, n, i, d⟩) ∧ Below w.heap.size w w' := by
  have HO : Hid (Octs w v d) := ho
  have HT : Hid (Steps w) := ht
  have HK : Hid (okP ⟨false, e, n, i, d⟩ = true) := hok
  have hd : d.length ≤ 112 := (okP_right.1 hok).data
  obtain ⟨a, cap, rfl⟩ := ho.shape
  obtain ⟨A2, hA2⟩ : ∃ A, A = octZ 80 1 := ⟨_, rfl⟩
  obtain ⟨A3, hA3⟩ : ∃ A, A = A2 ++ octZ e 4 := ⟨_, rfl⟩
  obtain ⟨A4, hA4⟩ : ∃ A, A = A3 ++ octZ n 4 := ⟨_, rfl⟩
  obtain ⟨A5, hA5⟩ : ∃ A, A = A4 ++ octZ i 2 := ⟨_, rfl⟩
  obtain ⟨A6, hA6⟩ : ∃ A, A = A5 ++ octZ d.length 1 := ⟨_, rfl⟩
  have HL1 : Hid (([] : List Nat).length = 0) := rfl
  have HL2 : Hid (A2.length = 1) := by unfold Hid; rw [hA2, octZ_length]
  have HL3 : Hid (A3.length = 5) := by unfold Hid; rw [hA3, List.length_append, octZ_length, HL2.out]
  have HL4 : Hid (A4.length = 9) := by unfold Hid; rw [hA4, List.length_append, octZ_length, HL3.out]
  have HL5 : Hid (A5.length = 11) := by unfold Hid; rw [hA5, List.length_append, octZ_length, HL4.out]
  have HL6 : Hid (A6.length = 12) := by unfold Hid; rw [hA6, List.length_append, octZ_length, HL5.out]
  have HE6 : Hid (A6 = pre6 ⟨false, e, n, i, d⟩) := by unfold Hid; rw [hA6, hA5, hA4, hA3, hA2]; exact pre6_eq ⟨false, e, n, i, d⟩ hd 80 rfl (by decide)
  have HA2 : Hid ([] ++ octZ 80 1 = A2) := by unfold Hid; rw [hA2]; rfl
  have HA3 : Hid (A2 ++ octZ e 4 = A3) := hA3.symm
  have HA4 : Hid (A3 ++ octZ n 4 = A4) := hA4.symm
  have HA5 : Hid (A4 ++ octZ i 2 = A5) := hA5.symm
  have HA6 : Hid (A5 ++ octZ d.length 1 = A6) := hA6.symm
  have hz124 := Tryd.zero124
  obtain ⟨Z2, hZ2⟩ : ∃ Z, Z = zl 124 := ⟨_, rfl⟩
  rw [← hZ2] at hz124
  have HZ2 : Hid (Z2 = zl 124) := hZ2
  clear ho ht hok hA2 hA3 hA4 hA5 hA6 hZ2
  go_enter Tryd.func38, Tryd.ntmps38
  go_wp2_with fail
  refine (right6 ⟨false, e, n, i, d⟩ _ _ (HO.out.alloc _)).mono ?_
  rintro x W ⟨rfl, hb⟩
  have F1 : Hid (PartAt W w.heap.size ⟨false, e, n, i, d⟩ (.slice a d.length cap)) := PartAt.same (heap_alloc_new w _) hb (by simp)
  have FB : Hid (Below w.heap.size w W) := ((Below.refl _ _).alloc (Nat.le_refl _) _).trans (hb.mono (by simp))
  have hx : w.heap.size < W.heap.size := F1.out.lt
  clear hb
  rw [HK.out]
  obtain ⟨c0, c1, c2, c3, c4⟩ := F1.out.cells
  have HD : Hid (∀ w', Below W.heap.size W w' → w'.cell? ⟨w.heap.size, 1, none⟩ = some (.int .i64 e) ∧ w'.cell? ⟨w.heap.size, 2, none⟩ = some (.int .i64 n) ∧ w'.cell? ⟨w.heap.size, 3, none⟩ = some (.int .i64 i) ∧ w'.cell? ⟨w.heap.size, 4, none⟩ = some (.slice a d.length cap)) := fun w' h => ⟨(h.cell (p := ⟨w.heap.size, 1, none⟩) hx).trans c1, (h.cell (p := ⟨w.heap.size, 2, none⟩) hx).trans c2, (h.cell (p := ⟨w.heap.size, 3, none⟩) hx).trans c3, (h.cell (p := ⟨w.heap.size, 4, none⟩) hx).trans c4⟩
  go_wp2_with fail
  clear c0 c1 c2 c3 c4
  go_region_held3 (fun w' => w'.cell? ⟨w.heap.size, 1, none⟩ = some (.int .i64 e) ∧ w'.cell? ⟨w.heap.size, 2, none⟩ = some (.int .i64 n) ∧ w'.cell? ⟨w.heap.size, 3, none⟩ = some (.int .i64 i) ∧ w'.cell? ⟨w.heap.size, 4, none⟩ = some (.slice a d.length cap)) (first | exact HD.out _ (Below.refl _ _).drew | exact HD.out _ HB6.out | exact HD.out _ HB5.out | exact HD.out _ HB4.out | exact HD.out _ HB3.out | exact HD.out _ HB2.out | exact HD.out _ HB1.out) (first
     | (go_at_call 52; refine (wnum_any HW5.out d.length 1 (by rw [HL5.out]; decide)).mono ?_; rintro e w6 ⟨rfl, hw6, hb6⟩
        rw [show cl 1 8 = 1 by decide, HA6.out] at hw6
        have HB6 : Hid (Below W.heap.size W w6) := HB5.out.trans hb6
        have HW6 : Hid (IsW W.heap.size w6 W.heap.size A6) := hw6
        clear hw6 hb6)
     | (go_at_call 52; refine (wnum_any HW4.out i 2 (by rw [HL4.out]; decide)).mono ?_; rintro e w5 ⟨rfl, hw5, hb5⟩
        rw [show cl 2 8 = 2 by decide, HA5.out] at hw5
        have HB5 : Hid (Below W.heap.size W w5) := HB4.out.trans hb5
        have HW5 : Hid (IsW W.heap.size w5 W.heap.size A5) := hw5
        clear hw5 hb5)
     | (go_at_call 52; refine (wnum_any HW3.out n 4 (by rw [HL3.out]; decide)).mono ?_; rintro e w4 ⟨rfl, hw4, hb4⟩
        rw [show cl 4 8 = 4 by decide, HA4.out] at hw4
        have HB4 : Hid (Below W.heap.size W w4) := HB3.out.trans hb4
        have HW4 : Hid (IsW W.heap.size w4 W.heap.size A4) := hw4
        clear hw4 hb4)
     | (go_at_call 52; refine (wnum_any HW2.out e 4 (by rw [HL2.out]; decide)).mono ?_; rintro e w3 ⟨rfl, hw3, hb3⟩
        rw [show cl 4 8 = 4 by decide, HA3.out] at hw3
        have HB3 : Hid (Below W.heap.size W w3) := HB2.out.trans hb3
        have HW3 : Hid (IsW W.heap.size w3 W.heap.size A3) := hw3
        clear hw3 hb3)
     | (go_at_call 52; refine (wnum_any HW1.out 80 1 (by rw [HL1.out]; decide)).mono ?_; rintro e w2 ⟨rfl, hw2, hb2⟩
        rw [show cl 1 8 = 1 by decide, HA2.out] at hw2
        have HB2 : Hid (Below W.heap.size W w2) := HB1.out.trans hb2
        have HW2 : Hid (IsW W.heap.size w2 W.heap.size A2) := hw2
        clear hw2 hb2)
     | (go_at_call 51; refine (write_new _).mono ?_; rintro e w1 ⟨rfl, hw1, hb1⟩
        have HB1 : Hid (Below W.heap.size W w1) := below_undrew hb1
        have HW1 : Hid (IsW W.heap.size w1 W.heap.size []) := hw1
        clear hb1 hw1))
  have FS6 : Hid (PartAt w6 w.heap.size ⟨false, e, n, i, d⟩ (.slice a d.length cap)) := F1.out.same HB6.out hx
  clear HD HW1 HW2 HW3 HW4 HW5 HB1 HB2 HB3 HB4 HB5
  go_wp2_with fail
  have HW7 : Hid (IsW W.heap.size (w6.alloc (.cells (u8s Z2).toArray 100)) W.heap.size A6) := by
    obtain ⟨u, hu⟩ := HW6.out
    exact ⟨u, hu.kept ((Below.refl _ _).alloc (Nat.le_refl _) _)⟩
  have HB7 : Hid (Below w6.heap.size w6 (w6.alloc (.cells (u8s Z2).toArray 100))) := (Below.refl _ _).alloc (Nat.le_refl _) _
  have HG7 : Hid ((w6.alloc (.cells (u8s Z2).toArray 100)).heap[w6.heap.size]? = some (.cells (u8s Z2).toArray 100 (0, 0))) := heap_alloc_new _ _
  generalize w6.alloc (.cells (u8s Z2).toArray 100) = W7 at HW7 HB7 HG7 ⊢
  have HZL : Hid (Z2.length = 124) := by unfold Hid; rw [HZ2.out, zl_length]
  go_region_law (first
    | (refine step_copy_octs (by rfl) _ _ 32 32 (by rfl) 5 Tryd.underlying32 Tryd.sizeU86 w6.heap.size 0 124 124 (by rfl) _ A6 (by rfl) HO8.out Z2 100 HG8.out (by rw [HL6.out]; decide) (by rw [HL6.out, HZL.out]; decide) w6.heap.size w6 HB8.out (Nat.le_refl _) ?_
       intro w9 HG9 HB9 HO9)
    | (go_simp; go_at_call 53; refine (wbytes_any HW7.out.drew (by rw [HL6.out]; decide)).mono ?_; rintro e w8 ⟨v8, rfl, ho8, hb8⟩
       have HO8 : Hid (Octs w8 v8 A6) := ho8
       have hb8' : Below W7.heap.size W7 w8 := below_undrew hb8
       have HB8 : Hid (Below w6.heap.size w6 w8) := HB7.out.trans (hb8'.mono HB7.out.size)
       have HG8 : Hid (w8.heap[w6.heap.size]? = some (.cells (u8s Z2).toArray 100 (0, 0))) := row_same6 HG7.out hb8' (lt_of_heap HG7.out)
       clear ho8 hb8 hb8'))
  all_goals
    have FS9 : Hid (PartAt w9 w.heap.size ⟨false, e, n, i, d⟩ (.slice a d.length cap)) := FS6.out.same HB9.out FS6.out.lt
    have FB9 : Hid (Below w.heap.size w w9) := (FB.out.trans (HB6.out.mono FB.out.size)).trans (HB9.out.mono (by have := FB.out.size; have := HB6.out.size; omega))
    have HO9' : Hid (Octs w9 (.slice a d.length cap) d) := HO.out.kept FB9.out
    have hw6 : w.heap.size ≤ w6.heap.size := by have := FB.out.size; have := HB6.out.size; omega
    obtain ⟨C1, hC1⟩ : ∃ C, C = splice Z2 0 A6 := ⟨_, rfl⟩
    rw [← hC1] at HG9
    have HC1 : Hid (C1 = splice (zl 124) 0 (pre6 ⟨false, e, n, i, d⟩)) := by unfold Hid; rw [hC1, HZ2.out, HE6.out]
    have HC1L : Hid (C1.length = 124) := by unfold Hid; rw [hC1, length_splice _ _ _ (by rw [HZL.out, HL6.out]; decide), HZL.out]
    clear hC1 HO9 HO8 HG8 HB8 HG7 HB7 HW7
    obtain ⟨c0, c1, c2, c3, c4⟩ := FS9.out.cells
    clear c0 c1 c2 c3
    go_wp2_with fail
    go_region_law (first
      | (refine step_copy_octs (by rfl) _ _ 32 32 (by rfl) 5 Tryd.underlying32 Tryd.sizeU86 w6.heap.size 12 112 112 (by rfl) _ d (by rfl) HO9'.out.drew C1 100 HG9.out hd (by rw [HC1L.out]; omega) w6.heap.size w9 (Below.refl _ _).drew (Nat.le_refl _) ?_
         intro w10 HG10 HB10 HO10))
    all_goals
      obtain ⟨Bd, hBd⟩ : ∃ B, B = splice C1 12 d := ⟨_, rfl⟩
      rw [← hBd] at HG10
      have HBd : Hid (Bd = body6 ⟨false, e, n, i, d⟩) := by unfold Hid; rw [hBd, HC1.out]; exact body6_splice ⟨false, e, n, i, d⟩ hd
      have HBL : Hid (Bd.length = 124) := by unfold Hid; rw [HBd.out, body6_length _ hd]
      have HBS : Hid (∀ z ∈ Bd, z < 256) := by unfold Hid; rw [HBd.out]; exact body6_small _ HO.out.small
      have HX : Hid (Bd ++ octN (crcSum Bd) = sect6 ⟨false, e, n, i, d⟩) := by unfold Hid; rw [HBd.out]; rfl
      have FB10 : Hid (Below w.heap.size w w10) := FB9.out.trans (HB10.out.mono hw6)
      have HT10 : Hid (Steps w10) := HT.out.below FB10.out
      clear hBd c4 HO10
      go_wp2_with fail
      refine (seal_octs _ Bd _ (octs_row0 HG10.out HBS.out HBL.out (by decide)) (by rw [HBL.out]; decide) HT10.out).mono ?_
      rintro x w13 ⟨a13, c13, rfl, ho13, hb13⟩
      rw [HX.out] at ho13
      have HO13 : Hid (Octs w13 _ (sect6 ⟨false, e, n, i, d⟩)) := ho13
      have HB13 : Hid (Below w.heap.size w w13) := FB10.out.trans (hb13.mono FB10.out.size)
      clear ho13 hb13
      go_wp2
      go_ret2
      exact ⟨_, rfl, HO13.out, HB13.out⟩

theorem put6_ok (p : Part) (v : Value) (w : World) (hok : okP p = true) (ho : Octs w v p.data) (ht : Steps w) : Calls Tryd.prog 38 #[pval p v] w fun x w' => ∃ u, x = .returned (.tuple #[u, .int .i64 0]) ∧ Octs w' u (sect6 p) ∧ Below w.heap.size w w' := by
  obtain ⟨f, e, n, i, d⟩ := p
  cases f
  · exact put6_false e n i d v w hok ho ht
  · exact put6_true e n i d v w hok ho ht
end Go.Proofs.YthhdkadjlddmkaaDoor

/- The condition that a region holds may be made stronger on the way. Generic over the program. -/
namespace Go.Proofs.YthhdkadjlddmkaaDoor

theorem wpAnyH_stronger {P : Program} {md : Region.Mode} {ops : Array Oper} {Q : Exit → Act → World → Prop} {S S' : World → Prop} (hs : ∀ w, S' w → S w) :
    ∀ (fuel : Nat) (listed : Array Bool) (a : Act) (w : World), wpAnyH P md ops Q S' fuel listed a w → wpAnyH P md ops Q S fuel listed a w
  | 0, _, _, _, h => h
  | fuel + 1, _, _, _, h => ⟨h.1, fun i hi => wpOp_mono (fun a' w' h' => ⟨hs _ h'.1, wpAnyH_stronger hs fuel _ a' w' h'.2⟩) (h.2 i hi)⟩
end Go.Proofs.YthhdkadjlddmkaaDoor

/- The document's Put of a part: its contract. (Written by wip/mk_put6.py.) -/
namespace Go.Proofs.YthhdkadjlddmkaaDoor
open Go.RowKit
set_option linter.unusedVariables false

theorem str70 : (⟨#[70]⟩ : ByteArray) = strN [70] := by decide +kernel
theorem str80 : (⟨#[80]⟩ : ByteArray) = strN [80] := by decide +kernel

end Go.Proofs.YthhdkadjlddmkaaDoor

/- The document's Get of a part: its contract. (Written by wip/mk_get6.py.) -/
namespace Go.Proofs.YthhdkadjlddmkaaDoor
open Go.RowKit
set_option linter.unusedVariables false

theorem strN_at6 (zs : List Nat) (k z : Nat) (hz : zs[k]?.getD 0 = z) (hz8 : z < 256) (hk : k < zs.length) : ∀ h : k < (strN zs).size, ((strN zs)[k]'h).toNat = z := by
  intro h
  rw [List.getElem?_eq_getElem hk] at hz
  have hz' : zs[k] = z := by simpa using hz
  have e : (strN zs)[k]'h = UInt8.ofNat zs[k] := by
    simp [strN, strOfNums, ByteArray.getElem_eq_getElem_data]
  rw [e, hz']
  simp
  omega
/-- A part's five cells in a block. -/
def PA (w : World) (b : Nat) (f : Bool) (e n i : Int) (v : Value) : Prop := w.heap[b]? = some (.cells #[.bool f, .int .i64 e, .int .i64 n, .int .i64 i, v] 81 (0, 0))
theorem PA.cells {w : World} {b : Nat} {f : Bool} {e n i : Int} {v : Value} (h : PA w b f e n i v) : w.cell? ⟨b, 0, none⟩ = some (.bool f) ∧ w.cell? ⟨b, 1, none⟩ = some (.int .i64 e) ∧ w.cell? ⟨b, 2, none⟩ = some (.int .i64 n) ∧ w.cell? ⟨b, 3, none⟩ = some (.int .i64 i) ∧ w.cell? ⟨b, 4, none⟩ = some v := by
  refine ⟨?_, ?_, ?_, ?_, ?_⟩ <;> (rw [cell_of_row _ _ _ _ _ _ h]; rfl)
theorem PA.lt {w : World} {b : Nat} {f : Bool} {e n i : Int} {v : Value} (h : PA w b f e n i v) : b < w.heap.size := lt_of_heap h
theorem PA.same {w w' : World} {b B : Nat} {f : Bool} {e n i : Int} {v : Value} (h : PA w b f e n i v) (hb : Below B w w') (hB : b < B) : PA w' b f e n i v := (hb.block b hB).trans h
theorem PA.frozen {w : World} {b : Nat} {f : Bool} {e n i : Int} {v : Value} (h : PA w b f e n i v) (k : Nat) : w.frozen? ⟨b, k, none⟩ = false := by
  have h' : w.heap[b]? = _ := h
  simp [World.frozen?, h']
theorem PA.other {w : World} {b c : Nat} {f : Bool} {e n i : Int} {v : Value} (h : PA w b f e n i v) (k : Nat) (u : Value) (hn : b ≠ c) : PA (w.setCell ⟨c, k, none⟩ u) b f e n i v := (Below.heap_setCell _ _ _ _ hn).trans h
theorem PA.set1 {w : World} {b : Nat} {f : Bool} {e n i : Int} {v : Value} (h : PA w b f e n i v) (x : Int) : PA (w.setCell ⟨b, 1, none⟩ (.int .i64 x)) b f x n i v := (heap_set_row h 1 _).trans rfl
theorem PA.set2 {w : World} {b : Nat} {f : Bool} {e n i : Int} {v : Value} (h : PA w b f e n i v) (x : Int) : PA (w.setCell ⟨b, 2, none⟩ (.int .i64 x)) b f e x i v := (heap_set_row h 2 _).trans rfl
theorem PA.set3 {w : World} {b : Nat} {f : Bool} {e n i : Int} {v : Value} (h : PA w b f e n i v) (x : Int) : PA (w.setCell ⟨b, 3, none⟩ (.int .i64 x)) b f e n x v := (heap_set_row h 3 _).trans rfl
theorem PA.set4 {w : World} {b : Nat} {f : Bool} {e n i : Int} {v : Value} (h : PA w b f e n i v) (x : Value) : PA (w.setCell ⟨b, 4, none⟩ x) b f e n i x := (heap_set_row h 4 _).trans rfl
theorem Tryd.sizeP6 : (Tryd.prog.info? 81).map (·.size) = some 5 := by kernel_rfl
theorem PA.there {w : World} {b : Nat} {f : Bool} {e n i : Int} {v : Value} (h : PA w b f e n i v) : w.there b 0 5 := there_row' (C := [.bool f, .int .i64 e, .int .i64 n, .int .i64 i, v]) h rfl
theorem pa_loadSet {w : World} {b : Nat} {f0 : Bool} {e0 n0 i0 : Int} {v0 : Value} (h : PA w b f0 e0 n0 i0 v0) (f : Bool) (e n i : Int) (v : Value) : (loadVar 81 ⟨b, 0, none⟩).run Tryd.prog (w.setCells b 0 [.bool f, .int .i64 e, .int .i64 n, .int .i64 i, v]) = .ok (.agg #[.bool f, .int .i64 e, .int .i64 n, .int .i64 i, v]) (w.setCells b 0 [.bool f, .int .i64 e, .int .i64 n, .int .i64 i, v]) :=
  run_loadVar_mid (P := Tryd.prog) _ b 0 81 [.bool f, .int .i64 e, .int .i64 n, .int .i64 i, v] _ (World.rangeAt_setCells_same w b 0 _ h.there) Tryd.underlying81 rfl Tryd.sizeP6
theorem pa_one (f : Bool) (e n i : Int) (a : Option Addr) (l c : Nat) : (#[.bool f, .int .i64 e, .int .i64 n, .int .i64 i, .slice a l c] : Array Value).all (·.oneCell') = true := all_oneCell_toArray (by intro u hu; simp at hu; rcases hu with rfl | rfl | rfl | rfl | rfl <;> rfl)
/-- Octets in a block that is as it was. -/
theorem octs_block {w w' : World} {b off n cap : Nat} {zs : List Nat} (h : Octs w (.slice (some ⟨b, off, none⟩) n cap) zs) (hb : w'.heap[b]? = w.heap[b]?) : Octs w' (.slice (some ⟨b, off, none⟩) n cap) zs := by
  obtain ⟨h1, h2, ad, c, e, h3, h4, h5⟩ := h
  refine ⟨h1, h2, ad, c, e, h3, h4, ?_⟩
  rcases h5 with h5 | ⟨a, ea, h5⟩
  · exact .inl h5
  · refine .inr ⟨a, ea, ?_⟩
    rcases h5 with h5 | ⟨b', off', eb, hlt, hc⟩
    · exact .inl h5
    · subst ea
      simp only [Value.slice.injEq, Option.some.injEq] at e
      obtain ⟨e1, _, _⟩ := e
      rw [eb] at e1
      simp only [Addr.mk.injEq] at e1
      obtain ⟨rfl, rfl, _⟩ := e1
      refine .inr ⟨_, _, eb, ?_, fun j hj => ?_⟩
      · have h6 : w.heap[b]? = some w.heap[b] := Array.getElem?_eq_getElem hlt
        rw [h6] at hb
        exact (Array.getElem?_eq_some_iff.1 hb).1
      · rw [← hc j hj]
        simp [World.cell?, hb]
theorem heap_setCells_ne {w : World} {b k : Nat} (o : Nat) (vs : List Value) (hn : k ≠ b) : (w.setCells b o vs).heap[k]? = w.heap[k]? := ((Kept.refl (fun j => j = k) w).setCells (b := b) (fun e => hn e.symm) o vs).block k rfl
def gotV (o : Option Part) (v : Value) : Value := .tuple #[pval (o.getD Part.zero) v, .bool o.isSome]
theorem octs_nil (w : World) : Octs w (.slice none 0 0) [] := ⟨fun z h => (by cases h), (by simp), none, 0, rfl, Nat.le_refl _, (by simp), .inl ⟨rfl, rfl⟩⟩

end Go.Proofs.YthhdkadjlddmkaaDoor

/- Contract of the program's 'Get' of a part. -/
namespace Go.Proofs.YthhdkadjlddmkaaDoor
open Go.RowKit
set_option linter.unusedVariables false

/-- A number off a reading of which k octets are gone. -/
theorem rnum_at {w : World} {p : Nat} {zs : List Nat} (k n : Nat) (hR : IsR w p ⟨zs.drop k, false⟩) (hn : n ≤ 8) (h : k + n ≤ zs.length) :
    Calls Tryd.prog 73 #[.pointer (some ⟨p, 0, none⟩), .int .i64 (n : Nat)] w fun e w' => e = .returned (.int .i64 (getO ((zs.drop k).take n))) ∧ IsR w' p ⟨zs.drop (k + n), false⟩ ∧ Only p w w' := by
  refine (rnum_any hR (n : Nat)).mono ?_
  have e1 : cl (n : Nat) 8 = n := by unfold cl; omega
  have hc : RS.can ⟨zs.drop k, false⟩ n = true := RS.can_iff.2 ⟨rfl, by show n ≤ (zs.drop k).length; rw [List.length_drop]; omega⟩
  rintro e w' ⟨rfl, h1, h2⟩
  rw [e1] at h1 ⊢
  have o1 : RS.oct ⟨zs.drop k, false⟩ n = (zs.drop k).take n := if_pos hc
  have o2 : RS.off ⟨zs.drop k, false⟩ n = ⟨(zs.drop k).drop n, false⟩ := if_pos hc
  rw [o2, List.drop_drop] at h1
  rw [o1]
  exact ⟨rfl, h1, h2⟩
theorem PA.noOct {w : World} {b : Nat} {f : Bool} {e n i : Int} {a : Option Addr} {l c : Nat} (h : PA w b f e n i (.slice a l c)) : NoOct w b := by
  intro k z hz
  rw [cell_of_row _ _ _ _ _ _ h] at hz
  match k with
  | 0 => simp at hz
  | 1 => simp at hz
  | 2 => simp at hz
  | 3 => simp at hz
  | 4 => simp at hz
  | k + 5 => simp at hz
theorem Only.setCells {p : Nat} {a w : World} (h : Only p a w) (o : Nat) (vs : List Value) : Only p a (w.setCells p o vs) := Kept.setCells h (fun e => e.2 rfl) o vs
/-- What the program reads out of a sector. -/
def readQ (zs : List Nat) : Part := { readP zs with data := (zs.drop 12).take (min (zs[11]?.getD 0) 112) }
theorem getP_readQ (zs : List Nat) (h : zs.length = 128) : getP zs = if okP (readQ zs) = true ∧ sect6 (readQ zs) = zs then some (readQ zs) else none := by
  by_cases hc : zs[11]?.getD 0 ≤ 112
  · have e : readQ zs = readP zs := by unfold readQ readP; rw [Nat.min_eq_left hc]
    rw [e]
    unfold getP getB
    rw [decide_eq_true h, decide_eq_true hc]
    by_cases h1 : okP (readP zs) = true
    · by_cases h2 : sect6 (readP zs) = zs
      · rw [h1, decide_eq_true h2, if_pos (by rfl), if_pos ⟨rfl, h2⟩]
      · rw [decide_eq_false h2, h1, if_neg (by simp), if_neg fun e => h2 e.2]
    · have h1' : okP (readP zs) = false := by simpa using h1
      rw [h1', if_neg (by simp), if_neg (by simp)]
  · have n1 : getP zs = none := by
      unfold getP getB
      rw [decide_eq_false hc]
      simp
    have hl : (readQ zs).data.length = 112 := by
      show ((zs.drop 12).take (min (zs[11]?.getD 0) 112)).length = 112
      have : min (zs[11]?.getD 0) 112 = 112 := by omega
      rw [this, List.length_take, List.length_drop, h]; decide
    rw [n1, if_neg]
    rintro ⟨-, e⟩
    have := sect6_eleven (readQ zs) (by omega)
    rw [e, hl] at this
    omega
theorem getO_one (zs : List Nat) (k : Nat) (h : k < zs.length) (hz : ∀ z ∈ zs, z < 256) : getO ((zs.drop k).take 1) = (zs[k]?.getD 0 : Nat) := by
  have e : (zs.drop k).take 1 = [zs[k]] := by rw [List.drop_eq_getElem_cons h, List.take_succ_cons, List.take_zero]
  have h1 := hz zs[k] (List.getElem_mem h)
  rw [e, List.getElem?_eq_getElem h, (getO_two [zs[k]] (by intro z hz'; rw [List.mem_singleton] at hz'; omega) (by simp)).1]
  simp [getL]

set_option maxHeartbeats 800000 in
set_option maxRecDepth 20000 in
theorem get6_128 (v : Value) (zs : List Nat) (w : World) (ho : Octs w v zs) (hn : zs.length = 128) (ht : Steps w) : Calls Tryd.prog 68 #[v] w fun x w' => ∃ u, x = .returned (gotV (getP zs) u) ∧ Octs w' u ((getP zs).getD Part.zero).data ∧ Below w.heap.size w w' := by
  have HO : Hid (Octs w v zs) := ho
  have HN : Hid (zs.length = 128) := hn
  have HT : Hid (Steps w) := ht
  have HG : Hid (getP zs = if okP (readQ zs) = true ∧ sect6 (readQ zs) = zs then some (readQ zs) else none) := getP_readQ zs hn
  obtain ⟨a, cap, rfl⟩ := ho.shape
  have hcap := ho.capLe
  obtain ⟨b, off, rfl, hb, -⟩ := ho.addr (by omega)
  rw [hn] at HO hcap ⊢
  obtain ⟨r, hr⟩ : ∃ r, r = readQ zs := ⟨_, rfl⟩
  rw [← hr] at HG
  obtain ⟨c, hc⟩ : ∃ c, c = zs[11]?.getD 0 := ⟨_, rfl⟩
  have hc8 : c < 256 := by rw [hc]; exact getD_small zs ho.small 11
  obtain ⟨M, hM⟩ : ∃ M, M = min (12 + c) 124 := ⟨_, rfl⟩
  have HX1 : Hid (getO ((zs.drop 0).take 1) = (zs[0]?.getD 0 : Nat)) := getO_one zs 0 (by omega) ho.small
  have HX5 : Hid (getO ((zs.drop 11).take 1) = (c : Nat)) := by unfold Hid; rw [hc]; exact getO_one zs 11 (by omega) ho.small
  have HE : Hid (getO ((zs.drop 1).take 4) = r.epoch ∧ getO ((zs.drop 5).take 4) = r.number ∧ getO ((zs.drop 9).take 2) = r.index) := by rw [hr]; exact ⟨rfl, rfl, rfl⟩
  have HDat : Hid ((zs.drop 12).take (M - 12) = r.data) := by
    show _ = _
    rw [hr, hM, hc]
    show _ = (zs.drop 12).take (min (zs[11]?.getD 0) 112)
    congr 1
    omega
  obtain ⟨x1, hx1⟩ : ∃ x1 : Nat, x1 = zs[0]?.getD 0 := ⟨_, rfl⟩
  rw [← hx1] at HX1
  have hf1 : decide ((x1 : Int) = 70) = r.foot := by
    rw [hr, hx1]
    show _ = decide (zs[0]?.getD 0 = 70)
    rw [decide_eq_decide]
    omega
  have hf2 : ((x1 : Int) == 70) = r.foot := by rw [← hf1]; by_cases h : (x1 : Int) = 70 <;> simp [h]
  have hM1 : (12 : Int) ≤ (M : Nat) := by omega
  have hM2 : (M : Int) ≤ cap := by omega
  have hM3 : M ≤ 124 := by omega
  have em1 : (if (124 : Int) < 12 + (c : Nat) then (124 : Int) else 12 + (c : Nat)) = (M : Nat) := by split <;> omega
  have em4 : IntKind.i64.wrap (12 + (c : Nat)) = 12 + (c : Nat) := by rw [IntKind.wrap_i64]; omega
  have em5 : ¬ cap = 12 := by omega
  have HM : Hid (M - 12 ≤ 116) := by unfold Hid; omega
  have W1 : Hid (Below w.heap.size w (w.alloc (.cells #[.bool false, .int .i64 0, .int .i64 0, .int .i64 0, .slice none 0 0] 81))) := (Below.refl _ _).alloc (Nat.le_refl _) _
  have W2 : Hid (PA (w.alloc (.cells #[.bool false, .int .i64 0, .int .i64 0, .int .i64 0, .slice none 0 0] 81)) w.heap.size false 0 0 0 (.slice none 0 0)) := heap_alloc_new w _
  have W3 : Hid ((w.alloc (.cells #[.bool false, .int .i64 0, .int .i64 0, .int .i64 0, .slice none 0 0] 81)).heap.size = w.heap.size + 1) := by simp [Hid]
  clear ho hn ht hr hc hM hx1
  go_enter Tryd.func68, Tryd.ntmps68
  go_wp2_with fail
  generalize w.alloc (.cells #[.bool false, .int .i64 0, .int .i64 0, .int .i64 0, .slice none 0 0] 81) = V at *
  refine (read_octs _ zs V (HO.out.kept W1.out) (by rw [HN.out]; decide)).mono ?_
  rintro x w1 ⟨p, rfl, hR, hB, hp⟩
  have HR0 : Hid (IsR w1 p ⟨zs.drop 0, false⟩) := hR
  have HB0 : Hid (Below V.heap.size V w1) := hB
  have HP : Hid (V.heap.size ≤ p) := hp
  clear hR hB hp
  go_wp2_with fail
  refine (rnum_at 0 1 HR0.out (by decide) (by rw [HN.out]; decide)).mono ?_
  rintro x w2 ⟨rfl, hR, hK⟩
  rw [HX1.out]
  have HR1 : Hid (IsR w2 p ⟨zs.drop 1, false⟩) := hR
  have HB1 : Hid (Below V.heap.size V w2) := HB0.out.trans (hK.below HP.out HB0.out.size)
  clear hR hK HR0 HB0
  go_wp2_with fail
  refine (rnum_at 1 4 HR1.out (by decide) (by rw [HN.out]; decide)).mono ?_
  rintro x w3 ⟨rfl, hR, hK⟩
  rw [HE.out.1]
  have HR2 : Hid (IsR w3 p ⟨zs.drop 5, false⟩) := hR
  have HB2 : Hid (Below V.heap.size V w3) := HB1.out.trans (hK.below HP.out HB1.out.size)
  clear hR hK HR1 HB1
  go_wp2_with fail
  refine (rnum_at 5 4 HR2.out (by decide) (by rw [HN.out]; decide)).mono ?_
  rintro x w4 ⟨rfl, hR, hK⟩
  rw [HE.out.2.1]
  have HR3 : Hid (IsR w4 p ⟨zs.drop 9, false⟩) := hR
  have HB3 : Hid (Below V.heap.size V w4) := HB2.out.trans (hK.below HP.out HB2.out.size)
  clear hR hK HR2 HB2
  go_wp2_with fail
  refine (rnum_at 9 2 HR3.out (by decide) (by rw [HN.out]; decide)).mono ?_
  rintro x w5 ⟨rfl, hR, hK⟩
  rw [HE.out.2.2]
  have HR4 : Hid (IsR w5 p ⟨zs.drop 11, false⟩) := hR
  have HB4 : Hid (Below V.heap.size V w5) := HB3.out.trans (hK.below HP.out HB3.out.size)
  clear hR hK HR3 HB3
  go_wp2_with fail
  have HQ5 : Hid (PA (w5.alloc (.cells #[.bool r.foot, .int .i64 r.epoch, .int .i64 r.number, .int .i64 r.index, .slice none 0 0] 81)) w5.heap.size r.foot r.epoch r.number r.index (.slice none 0 0)) := heap_alloc_new w5 _
  have HR5 := HR4.out.alloc (.cells #[.bool r.foot, .int .i64 r.epoch, .int .i64 r.number, .int .i64 r.index, .slice none 0 0] 81)
  have HB5 : Hid (Below V.heap.size V (w5.alloc (.cells #[.bool r.foot, .int .i64 r.epoch, .int .i64 r.number, .int .i64 r.index, .slice none 0 0] 81))) := HB4.out.alloc HB4.out.size _
  have HP5 : Hid (p < w5.heap.size) := HR4.out.lt
  have HV5 : Hid (V.heap.size ≤ w5.heap.size) := HB4.out.size
  refine (rnum_at 11 1 HR5 (by decide) (by rw [HN.out]; decide)).mono ?_
  rintro x w6 ⟨rfl, hR, hK⟩
  rw [HX5.out]
  have HB6 : Hid (Below V.heap.size V w6) := HB5.out.trans (hK.below HP.out HB5.out.size)
  have HQ6 : Hid (PA w6 w5.heap.size r.foot r.epoch r.number r.index (.slice none 0 0)) := (hK.heap HQ5.out.lt (by have := HP5.out; omega)).trans HQ5.out
  clear hR hK HR4 HB4 HR5 HB5 HQ5
  have HO6 : Hid (Octs w6 (.slice (some ⟨b, off, none⟩) 128 cap) zs) := (HO.out.kept W1.out).kept (HB6.out)
  have HO6' : Hid (Octs w6 (.slice (some ⟨b, off + 12, none⟩) (M - 12) (cap - 12)) r.data) := by
    have h1 := HO6.out.back (n := 12) (x := off + 12) (by decide) (.inl rfl)
    have h2 := h1.front (n := M - 12) HM.out
    rwa [HDat.out] at h2
  go_wp2_with fail
  refine (clone_octs _ r.data w6 HO6'.out (by rw [← HDat.out, List.length_take]; have := HM.out; omega)).mono ?_
  rintro x w7 ⟨u, rfl, hu, hB⟩
  have HO7 : Hid (Octs w7 u r.data) := hu
  have HB7 : Hid (Below V.heap.size V w7) := HB6.out.trans (hB.mono HB6.out.size)
  have HQ7 : Hid (PA w7 w5.heap.size r.foot r.epoch r.number r.index (.slice none 0 0)) := HQ6.out.same hB HQ6.out.lt
  obtain ⟨ua, uc, rfl⟩ := hu.shape
  clear hu hB HB6 HQ6 HO6 HO6'
  obtain ⟨q0, q1, q2, q3, q4⟩ := HQ7.out.cells
  have f7 := HQ7.out.frozen 4
  go_wp2_with fail
  clear q0 q1 q2 q3 q4 f7
  have HNO : Hid (NoOct w7 w5.heap.size) := HQ7.out.noOct
  have HOn : Hid (Only w5.heap.size w7 (w7.setCell ⟨w5.heap.size, 4, none⟩ (.slice ua r.data.length uc))) := (Only.refl _ _).setCell _ _
  have HO8 : Hid (Octs (w7.setCell ⟨w5.heap.size, 4, none⟩ (.slice ua r.data.length uc)) (.slice ua r.data.length uc) r.data) := HO7.out.only HNO.out HOn.out
  have HB8 : Hid (Below V.heap.size V (w7.setCell ⟨w5.heap.size, 4, none⟩ (.slice ua r.data.length uc))) := HB7.out.setCell (p := ⟨w5.heap.size, 4, none⟩) HV5.out _
  have HQ8 : Hid (PA (w7.setCell ⟨w5.heap.size, 4, none⟩ (.slice ua r.data.length uc)) w5.heap.size r.foot r.epoch r.number r.index (.slice ua r.data.length uc)) := HQ7.out.set4 _
  clear HNO HOn HO7 HB7 HQ7
  generalize w7.setCell ⟨w5.heap.size, 4, none⟩ (.slice ua r.data.length uc) = w8 at *
  have HS8 : Hid (Steps w8) := (HT.out.below W1.out).below HB8.out
  have HB8' : Hid (Below w.heap.size w w8) := W1.out.trans (HB8.out.mono W1.out.size)
  by_cases hok : okP r = true
  · refine (put6_ok r _ w8 hok HO8.out HS8.out).mono ?_
    rintro x w9 ⟨u9, rfl, hu9, hb9⟩
    have HO9 : Hid (Octs w9 u9 (sect6 r)) := hu9
    have HD9 : Hid (Octs w9 (.slice ua r.data.length uc) r.data) := HO8.out.kept hb9
    have HZ9 : Hid (Octs w9 (.slice (some ⟨b, off, none⟩) 128 cap) zs) := (HO.out.kept HB8'.out).kept (hb9.mono (Nat.le_refl _))
    have HB9 : Hid (Below w.heap.size w w9) := HB8'.out.trans (hb9.mono HB8'.out.size)
    have HQ9 : Hid (PA w9 w5.heap.size r.foot r.epoch r.number r.index (.slice ua r.data.length uc)) := HQ8.out.same hb9 HQ8.out.lt
    have FZ9 : Hid (PA w9 w.heap.size false 0 0 0 (.slice none 0 0)) := (W2.out.same HB8.out W2.out.lt).same hb9 (by have := HB8.out.size; have := W2.out.lt; omega)
    clear hu9 hb9 HO8 HB8 HB8' HQ8 HS8
    go_wp2_with fail
    refine (equal_octs _ _ _ _ _ HO9.out HZ9.out).mono ?_
    rintro x w10 ⟨rfl, rfl⟩
    by_cases hs : sect6 r = zs
    · have HV : Hid (getP zs = some r) := by unfold Hid; rw [HG.out, if_pos ⟨hok, hs⟩]
      rw [decide_eq_true hs]
      clear hs
      obtain ⟨q0, q1, q2, q3, q4⟩ := HQ9.out.cells
      go_wp2_with ((with_reducible show wpList _ _ _ (Oper.mk _ (Op.store _ _ _) _ _ _ _ :: _) _ _); go_must (refine wpList_store_mid rfl 81 _ _ rfl w.heap.size 0 #[.bool r.foot, .int .i64 r.epoch, .int .i64 r.number, .int .i64 r.index, .slice ua r.data.length uc] rfl rfl FZ9.out.there Tryd.sizeP6 (pa_one _ _ _ _ _ _ _) ?_))
      go_wp2
      refine bodyPost_ret (v := .tuple #[.agg #[.bool r.foot, .int .i64 r.epoch, .int .i64 r.number, .int .i64 r.index, .slice ua r.data.length uc], .bool true]) (results_cell2 rfl rfl rfl (pa_loadSet FZ9.out r.foot r.epoch r.number r.index (.slice ua r.data.length uc))) rfl ⟨_, (by rw [HV.out]; rfl), ?_, below_setCells HB9.out (Nat.le_refl _) _ _⟩
      rw [HV.out]
      exact HD9.out.only FZ9.out.noOct (Only.setCells (Only.refl _ _) _ _)
    · have HV : Hid (getP zs = none) := by unfold Hid; rw [HG.out, if_neg fun e => hs e.2]
      rw [decide_eq_false hs]
      clear hs
      go_wp2_with ((with_reducible show wpList _ _ _ (Oper.mk _ (Op.store _ _ _) _ _ _ _ :: _) _ _); go_must (refine wpList_store_mid rfl 81 _ _ rfl w.heap.size 0 #[.bool false, .int .i64 0, .int .i64 0, .int .i64 0, .slice none 0 0] rfl rfl FZ9.out.there Tryd.sizeP6 (pa_one _ _ _ _ _ _ _) ?_))
      go_wp2
      exact bodyPost_ret (v := gotV none (.slice none 0 0)) (results_cell2 rfl rfl rfl (pa_loadSet FZ9.out false 0 0 0 (.slice none 0 0))) rfl ⟨.slice none 0 0, (by rw [HV.out]), (by rw [HV.out]; exact octs_nil _), below_setCells HB9.out (Nat.le_refl _) _ _⟩
  · have hok' : okP r = false := by simpa using hok
    have HV : Hid (getP zs = none) := by unfold Hid; rw [HG.out, if_neg fun e => hok e.1]
    clear hok
    refine (put6_no r _ w8 hok' HO8.out).mono ?_
    rintro x w9 ⟨rfl, hb9⟩
    have HB9 : Hid (Below w.heap.size w w9) := HB8'.out.trans (hb9.mono HB8'.out.size)
    have FZ9 : Hid (PA w9 w.heap.size false 0 0 0 (.slice none 0 0)) := (W2.out.same HB8.out W2.out.lt).same hb9 (by have := HB8.out.size; have := W2.out.lt; omega)
    clear hb9 HO8 HB8 HB8' HQ8 HS8
    go_wp2_with ((with_reducible show wpList _ _ _ (Oper.mk _ (Op.store _ _ _) _ _ _ _ :: _) _ _); go_must (refine wpList_store_mid rfl 81 _ _ rfl w.heap.size 0 #[.bool false, .int .i64 0, .int .i64 0, .int .i64 0, .slice none 0 0] rfl rfl FZ9.out.there Tryd.sizeP6 (pa_one _ _ _ _ _ _ _) ?_))
    go_wp2
    exact bodyPost_ret (v := gotV none (.slice none 0 0)) (results_cell2 rfl rfl rfl (pa_loadSet FZ9.out false 0 0 0 (.slice none 0 0))) rfl ⟨.slice none 0 0, (by rw [HV.out]), (by rw [HV.out]; exact octs_nil _), below_setCells HB9.out (Nat.le_refl _) _ _⟩

set_option maxHeartbeats 400000 in
theorem get6 (v : Value) (zs : List Nat) (w : World) (ho : Octs w v zs) (ht : Steps w) : Calls Tryd.prog 68 #[v] w fun x w' => ∃ u, x = .returned (gotV (getP zs) u) ∧ Octs w' u ((getP zs).getD Part.zero).data ∧ Below w.heap.size w w' := by
  by_cases hn : zs.length = 128
  · exact get6_128 v zs w ho hn ht
  · have HV : Hid (getP zs = none) := by unfold Hid getP getB; rw [decide_eq_false hn]; simp
    have hlen := ho.len
    obtain ⟨a, cap, rfl⟩ := ho.shape
    have hn' : ¬ (zs.length : Int) = 128 := by omega
    have W1 : Hid (Below w.heap.size w (w.alloc (.cells #[.bool false, .int .i64 0, .int .i64 0, .int .i64 0, .slice none 0 0] 81))) := (Below.refl _ _).alloc (Nat.le_refl _) _
    have W2 : Hid (PA (w.alloc (.cells #[.bool false, .int .i64 0, .int .i64 0, .int .i64 0, .slice none 0 0] 81)) w.heap.size false 0 0 0 (.slice none 0 0)) := heap_alloc_new w _
    clear ho ht hn
    go_enter Tryd.func68, Tryd.ntmps68
    go_wp2_with ((with_reducible show wpList _ _ _ (Oper.mk _ (Op.store _ _ _) _ _ _ _ :: _) _ _); go_must (refine wpList_store_mid rfl 81 _ _ rfl w.heap.size 0 #[.bool false, .int .i64 0, .int .i64 0, .int .i64 0, .slice none 0 0] rfl rfl W2.out.there Tryd.sizeP6 (pa_one _ _ _ _ _ _ _) ?_))
    go_wp2
    exact bodyPost_ret (v := gotV none (.slice none 0 0)) (results_cell2 rfl rfl rfl (pa_loadSet W2.out false 0 0 0 (.slice none 0 0))) rfl ⟨.slice none 0 0, (by rw [HV.out]), (by rw [HV.out]; exact octs_nil _), below_setCells W1.out (Nat.le_refl _) _ _⟩
end Go.Proofs.YthhdkadjlddmkaaDoor

/- Contract of the iterator 'parts': a transaction's parts and its foot, by footprints. -/
namespace Go.Proofs.YthhdkadjlddmkaaDoor
open Go.RowKit Go.Shelf
set_option linter.unusedVariables false
attribute [local go_sem] Oper.semAt_some

theorem RoundIn.into {m m' l l2 : Nat} {P : Program} {fn : FuncId} {tmps : Array Value} {assign body : Code} {W : World} {R : Ending → World → Prop} (h : RoundIn Fence.wide m P l fn tmps assign body W R) : RoundIn (Fence.wide.inRound l2) m' P l fn tmps assign body W R :=
  ⟨h.1, fun c cs _ => h.2 c cs (room_wide _)⟩
theorem RoundIn.any {m m' l : Nat} {P : Program} {fn : FuncId} {tmps : Array Value} {assign body : Code} {W : World} {R : Ending → World → Prop} (h : RoundIn Fence.wide m P l fn tmps assign body W R) : RoundIn Fence.wide m' P l fn tmps assign body W R :=
  ⟨h.1, fun c cs _ => h.2 c cs (room_wide _)⟩

theorem parts_v (w : World) (e n : Int) (v : Value) (a : Option Addr) (len cap : Nat) (hv : v = .slice a len cap) :
    Calls Tryd.prog 37 #[.int .i64 e, .int .i64 n, v] w fun x w' => x = .returned (.func (.func 47) #[] #[.pointer (some ⟨w.heap.size, 0, none⟩), .pointer (some ⟨w.heap.size + 1, 0, none⟩), .pointer (some ⟨w.heap.size + 2, 0, none⟩)]) ∧ w' = ((w.alloc (.cells #[.int .i64 e] 3)).alloc (.cells #[.int .i64 n] 3)).alloc (.cells #[v] 32) := by
  subst hv
  have hmf : ∀ (fn : Fn) (first cap : Array Value) (w : World), (Instr.makeFunc fn first cap).run Tryd.prog w = .ok (.func fn first cap) w := fun _ _ _ _ => rfl
  go_enter Tryd.func37, Tryd.ntmps37
  go_wp2
  go_ret
  exact ⟨rfl, rfl⟩

theorem chunks_parts (L : Nat) : chunks 112 L = partsN L := rfl
/-- What a round of parts is handed. -/
def okPart (e n : Int) (zs : List Nat) (pre : List (Part × Value)) (x : Part × Value) (W : World) : Prop :=
  Octs W x.2 x.1.data ∧ ((pre.length < partsN zs.length ∧ x.1 = partOf e n zs pre.length) ∨ (pre.length = partsN zs.length ∧ x.1 = footOf e n zs))
abbrev partEnc (x : Part × Value) : Array Value := #[pval x.1 x.2]

/-- Between two rounds of the loop over the chunks: its own two blocks are m and m + 1. -/
def partsI (m l : Nat) (e n : Int) (J : (Nat → Prop) → List (Part × Value) → World → Prop) (D1 : Nat → Prop) (pre : List Nat) (X : World) : Prop :=
  ∃ (Dj : Nat → Prop) (qs : List (Part × Value)) (a' : Option Addr) (l' c' : Nat), D1 = (fun k => Dj k ∨ k = m ∨ k = m + 1) ∧ ¬ Dj m ∧ ¬ Dj (m + 1) ∧ J Dj qs X ∧ qs.length = pre.length ∧ Boxed X m 93 (.func (.yield l) #[] #[]) ∧ PA X (m + 1) false e n (pre.length : Nat) (.slice a' l' c')
def partsIx (m : Nat) (Jx : (Nat → Prop) → List (Part × Value) → World → Prop) (c : Code) (D1 : Nat → Prop) (pre : List Nat) (X : World) : Prop :=
  c = .ret ∧ ∃ (Dj : Nat → Prop) (qs : List (Part × Value)), D1 = (fun k => Dj k ∨ k = m ∨ k = m + 1) ∧ Jx Dj qs X ∧ m + 1 < X.heap.size

set_option maxRecDepth 20000 in
set_option maxHeartbeats 1000000 in
theorem parts_seq (we : World) (B1 B2 B3 bb off L cap : Nat) (e n : Int) (zs : List Nat) (ho : Octs we (.slice (some ⟨bb, off, none⟩) L cap) zs) (hL1 : 1 ≤ L) (hL : L ≤ 65000) (ht : Steps we) (W0 : World) (hb : Below we.heap.size we W0)
    (R : Nat → Prop) (hR1 : R B1) (hR2 : R B2) (hR3 : R B3) (hRb : ∀ k, k < we.heap.size → R k) (hRl : ∀ k, R k → k < W0.heap.size)
    (c1 : W0.cell? ⟨B1, 0, none⟩ = some (.int .i64 e)) (c2 : W0.cell? ⟨B2, 0, none⟩ = some (.int .i64 n)) (c3 : W0.cell? ⟨B3, 0, none⟩ = some (.slice (some ⟨bb, off, none⟩) L cap)) :
    SeqSep Tryd.prog 47 #[.pointer (some ⟨B1, 0, none⟩), .pointer (some ⟨B2, 0, none⟩), .pointer (some ⟨B3, 0, none⟩)] partEnc (fun pre x W => okPart e n zs pre x W ∧ Kept R W0 W) R (fun xs => xs.length = partsN zs.length + 1) (fun _ => True) W0 := by
  intro l J Jx D W hJ hJx hR hRD hY h0
  have hlen := ho.lenEq
  have HLEN : Hid (zs.length = L) := hlen
  have HO : Hid (Octs we (.slice (some ⟨bb, off, none⟩) L cap) zs) := ho
  have HT : Hid (Steps we) := ht
  have HJ : Hid (Local J) := hJ
  have HJx : Hid (Local Jx) := hJx
  have HY : Hid (YieldSep Tryd.prog l partEnc (fun pre x W => okPart e n zs pre x W ∧ Kept R W0 W) J Jx) := hY
  have HR : Hid (Kept R W0 W) := hR
  have HRD : Hid (∀ k, R k → ¬ D k) := hRD
  have HRb : Hid (∀ k, k < we.heap.size → R k) := hRb
  have HRl : Hid (∀ k, R k → k < W0.heap.size) := hRl
  have HR3 : Hid (R B3) := hR3
  have HB : Hid (Below we.heap.size we W0) := hb
  have HC3 : Hid (W0.cell? ⟨B3, 0, none⟩ = some (.slice (some ⟨bb, off, none⟩) L cap)) := c3
  have HH0 : Hid (J D [] W) := h0
  have hcap := ho.capLe
  have g1 : W.cell? ⟨B1, 0, none⟩ = some (.int .i64 e) := (hR.cell (p := ⟨B1, 0, none⟩) hR1).trans c1
  have g2 : W.cell? ⟨B2, 0, none⟩ = some (.int .i64 n) := (hR.cell (p := ⟨B2, 0, none⟩) hR2).trans c2
  have g3 : W.cell? ⟨B3, 0, none⟩ = some (.slice (some ⟨bb, off, none⟩) L cap) := (hR.cell (p := ⟨B3, 0, none⟩) hR3).trans c3
  have lt1 : B1 < W.heap.size := by obtain ⟨_, _, _, h⟩ := cells_of_cell g1; exact lt_of_heap h
  have lt2 : B2 < W.heap.size := by obtain ⟨_, _, _, h⟩ := cells_of_cell g2; exact lt_of_heap h
  have lt3 : B3 < W.heap.size := by obtain ⟨_, _, _, h⟩ := cells_of_cell g3; exact lt_of_heap h
  clear ho ht hJ hJx hY hR hRD hRb hRl hR3 hb c1 c2 c3 h0 hR1 hR2
  refine (callsIn_wide (n := 6)).1 (callsIn_of_wp_marks (F := Fence.wide) (n := 6) Tryd.func47 rfl trivial ?_ rfl)
  simp only [Tryd.ntmps47, List.size_toArray, List.length_cons, List.length_nil, Nat.reduceAdd, Nat.reduceSub, Array.replicate_succ, Array.replicate_zero, List.push_toArray, List.append_toArray, List.nil_append, List.cons_append]
  gi_wp2_with fail
  refine ⟨trivial, callsIn_wide.2 ((chunk_v _ _ (some ⟨bb, off, none⟩) L cap rfl 112 (by decide)).mono ?_)⟩
  rintro x V00 ⟨rfl, rfl⟩
  gi_wp2_with fail
  obtain ⟨V0, hV0⟩ : ∃ V0, V0 = (((W.alloc (.cells #[.func (.yield l) #[] #[]] 93)).alloc (.cells #[.bool false, .int .i64 e, .int .i64 n, .int .i64 0, .slice none 0 0] 81)).alloc (.cells #[.slice (some ⟨bb, off, none⟩) L cap] 32)).alloc (.cells #[.int .i64 112] 3) := ⟨_, rfl⟩
  rw [← hV0]
  have hsz0 : V0.heap.size = W.heap.size + 4 := by rw [hV0]; simp
  have HB0 : Hid (Below W.heap.size W V0) := by
    unfold Hid; rw [hV0]
    exact ((((Below.refl _ W).alloc (Nat.le_refl _) _).alloc (by simp) _).alloc (by simp <;> omega) _).alloc (by simp <;> omega) _
  have at1 : ∀ (A : World) (o : Obj) (k : Nat), k < A.heap.size → (A.alloc o).heap[k]? = A.heap[k]? := fun A o k hk => Below.heap_alloc A o k hk
  have bY0 : Boxed V0 W.heap.size 93 (.func (.yield l) #[] #[]) := by
    unfold Boxed; rw [hV0, at1 _ _ _ (by simp <;> omega), at1 _ _ _ (by simp <;> omega), at1 _ _ _ (by simp)]; exact World.alloc_heap_new W _
  have bP0 : PA V0 (W.heap.size + 1) false e n 0 (.slice none 0 0) := by
    unfold PA; rw [hV0, at1 _ _ _ (by simp <;> omega), at1 _ _ _ (by simp)]
    have := World.alloc_heap_new (W.alloc (.cells #[.func (.yield l) #[] #[]] 93)) (.cells #[.bool false, .int .i64 e, .int .i64 n, .int .i64 0, .slice none 0 0] 81)
    rwa [World.size_alloc] at this
  have bS0 : Boxed V0 (W.heap.size + 2) 32 (.slice (some ⟨bb, off, none⟩) L cap) := by
    unfold Boxed; rw [hV0, at1 _ _ _ (by simp)]
    have := World.alloc_heap_new ((W.alloc (.cells #[.func (.yield l) #[] #[]] 93)).alloc (.cells #[.bool false, .int .i64 e, .int .i64 n, .int .i64 0, .slice none 0 0] 81)) (.cells #[.slice (some ⟨bb, off, none⟩) L cap] 32)
    rwa [World.size_alloc, World.size_alloc] at this
  have bN0 : Boxed V0 (W.heap.size + 3) 3 (.int .i64 ((112 : Nat) : Int)) := by
    unfold Boxed; rw [hV0]
    have := World.alloc_heap_new (((W.alloc (.cells #[.func (.yield l) #[] #[]] 93)).alloc (.cells #[.bool false, .int .i64 e, .int .i64 n, .int .i64 0, .slice none 0 0] 81)).alloc (.cells #[.slice (some ⟨bb, off, none⟩) L cap] 32)) (.cells #[.int .i64 112] 3)
    rwa [World.size_alloc, World.size_alloc, World.size_alloc] at this
  clear hV0 at1
  have hW0W : W0.heap.size ≤ W.heap.size := HR.out.size
  have hDlt : ∀ k, D k → k < W.heap.size := HJ.out.lt _ _ _ HH0.out
  have hRV : Kept R W0 V0 := HR.out.trans (Kept.ofBelow HB0.out fun k hk => by have := HRl.out k hk; omega)
  have HIL : Hid (Local (partsI W.heap.size l e n J)) := by
    refine ⟨?_, ?_⟩
    · rintro D1 pre X ⟨Dj, qs, a', l', c', rfl, nY, nP, hj, hq, bY, bP⟩ k (hk | rfl | rfl)
      · exact HJ.out.lt _ _ _ hj k hk
      · exact bY.lt
      · exact bP.lt
    · rintro D1 pre X X' ⟨Dj, qs, a', l', c', rfl, nY, nP, hj, hq, bY, bP⟩ hk
      exact ⟨Dj, qs, a', l', c', rfl, nY, nP, HJ.out.same _ _ _ _ hj (hk.mono fun _ h => .inl h), hq, (hk.block _ (.inr (.inl rfl))).trans bY, (hk.block _ (.inr (.inr rfl))).trans bP⟩
  have HXL : Hid (∀ c : Code, Local (partsIx W.heap.size Jx c)) := by
    refine fun c => ⟨?_, ?_⟩
    · rintro D1 pre X ⟨_, Dj, qs, rfl, hj, hs⟩ k (hk | rfl | rfl)
      · exact HJx.out.lt _ _ _ hj k hk
      · omega
      · exact hs
    · rintro D1 pre X X' ⟨hc, Dj, qs, rfl, hj, hs⟩ hk
      exact ⟨hc, Dj, qs, rfl, HJx.out.same _ _ _ _ hj (hk.mono fun _ h => .inl h), Nat.lt_of_lt_of_le hs hk.size⟩
  have HKW : Hid (∀ X : World, Kept (fun k => R k ∨ k = W.heap.size + 2 ∨ k = W.heap.size + 3) V0 X → Kept R W0 X) := fun X h => hRV.trans (h.mono fun k hk => .inl hk)
  have HRn : Hid (∀ k, R k → k < W.heap.size) := fun k hk => by have := HRl.out k hk; omega
  have HR2 : Hid (∀ k, (R k ∨ k = W.heap.size + 2 ∨ k = W.heap.size + 3) → k < V0.heap.size) := fun k hk => by
    rcases hk with hk | rfl | rfl
    · have := HRn.out k hk; omega
    · omega
    · omega
  have HOX : Hid (∀ X : World, Kept R W0 X → Octs X (.slice (some ⟨bb, off, none⟩) L cap) zs ∧ Steps X) := fun X h => by
    have hbx : Below we.heap.size we X := HB.out.trans (h.below HRb.out)
    exact ⟨HO.out.kept hbx, HT.out.below hbx⟩
  refine wpIn_rangeSep (n := 6) (gf := 63) (lb := #[.pointer (some ⟨W.heap.size + 2, 0, none⟩), .pointer (some ⟨W.heap.size + 3, 0, none⟩)]) rfl (enters_of Tryd.func63 (by kernel_rfl) rfl)
    (chunk_seq (W.heap.size + 2) (W.heap.size + 3) bb off 112 L cap (some ⟨bb, off, none⟩) (by decide) (by decide) (by omega) hcap.1 (fun _ => rfl) V0 (fun k => R k ∨ k = W.heap.size + 2 ∨ k = W.heap.size + 3) (.inr (.inl rfl)) (.inr (.inr rfl)) HR2.out bS0.cell bN0.cell)
    (Kept.refl _ _) HR2.out (fun _ => rfl)
    (partsI W.heap.size l e n J)
    (partsIx W.heap.size Jx)
    HIL.out HXL.out (fun k => D k ∨ k = W.heap.size ∨ k = W.heap.size + 1)
    (fun k hk hd => by
      rcases hk with hk | hk | hk
      · have := HRn.out k hk
        rcases hd with hd | hd | hd
        · exact HRD.out k hk hd
        · omega
        · omega
      · rcases hd with hd | hd | hd
        · have := hDlt k hd; omega
        · omega
        · omega
      · rcases hd with hd | hd | hd
        · have := hDlt k hd; omega
        · omega
        · omega)
    ⟨D, [], none, 0, 0, rfl, fun h => by have := hDlt _ h; omega, fun h => by have := hDlt _ h; omega, HJ.out.same _ _ _ _ HH0.out (Kept.ofBelow HB0.out hDlt), rfl, bY0, bP0⟩ ?round ?done ?stop
  case round =>
    rintro l2 D1 pre k X hl2 hnl - ⟨Dj, qs, a', l', c', rfl, nY, nP, hj, hq, bY, bP⟩ ⟨rfl, hk2, hkR⟩
    unfold chunkV
    have hIX : Hid (W.heap.size ≤ X.heap.size) := by have := bP.lt; unfold Hid; omega
    gi_wp2
    refine ⟨Below.refl _ _, fun V hVk hVs => ?_⟩
    have nl1 : ¬ Dj l2 := fun h => hnl (.inl h)
    have nlY : W.heap.size ≠ l2 := by omega
    have nlP : W.heap.size + 1 ≠ l2 := by omega
    have bYV : Boxed V W.heap.size 93 (.func (.yield l) #[] #[]) := (hVk.block _ nlY).trans bY
    have bPV : PA V (W.heap.size + 1) false e n (pre.length : Nat) (.slice a' l' c') := (hVk.block _ nlP).trans bP
    obtain ⟨j, hj0⟩ : ∃ j, j = pre.length := ⟨_, rfl⟩
    rw [← hj0] at bPV hk2 hq ⊢
    obtain ⟨E, hE⟩ : ∃ E, E = chunkLen 112 L j := ⟨_, rfl⟩
    rw [← hE]
    obtain ⟨V1, hV1⟩ : ∃ V1, V1 = V.setCell ⟨W.heap.size + 1, 4, none⟩ (.slice (some ⟨bb, off + 112 * j, none⟩) E E) := ⟨_, rfl⟩
    have bY1 : Boxed V1 W.heap.size 93 (.func (.yield l) #[] #[]) := by rw [hV1]; exact (Below.heap_setCell _ _ _ _ (show W.heap.size ≠ W.heap.size + 1 by omega)).trans bYV
    have bP1 : PA V1 (W.heap.size + 1) false e n (j : Nat) (.slice (some ⟨bb, off + 112 * j, none⟩) E E) := by rw [hV1]; exact bPV.set4 _
    have hs1 : V1.heap.size = X.heap.size := by rw [hV1]; simp [hVs]
    have kV1 : Kept (fun k => k ≠ W.heap.size + 1) V V1 := by rw [hV1]; exact (Kept.refl _ _).setCell (p := ⟨W.heap.size + 1, 4, none⟩) (fun h => h rfl) _
    have kR : Kept R W0 V1 := ((HKW.out X hkR).trans (hVk.mono fun k hk e => by have := HRn.out k hk; omega)).trans (kV1.mono fun k hk e => by have := HRn.out k hk; omega)
    have hJ1 : J Dj qs V1 := HJ.out.same _ _ _ _ hj ((hVk.mono fun k hk e => nl1 (e ▸ hk)).trans (kV1.mono fun k hk e => nP (e ▸ hk)))
    have hoc : Octs V1 (.slice (some ⟨bb, off + 112 * j, none⟩) E E) (partOf e n zs j).data := by
      have := octs_chunk (HOX.out V1 kR).1 112 j hk2
      rw [hE]
      exact this
    obtain ⟨fn, tmps, assign, body, hy, hRd⟩ := HY.out Dj qs (partOf e n zs j, .slice (some ⟨bb, off + 112 * j, none⟩) E E) V1 hJ1 ⟨⟨hoc, .inl ⟨by rw [hq]; have := (chunks_lt (N := 112) (by decide)).1 hk2; rw [HLEN.out]; exact this, by rw [hq]⟩⟩, kR⟩ 3
    have HRd : Hid _ := hRd
    dsimp only [partEnc, pval, partOf] at hy
    have HF : Hid (j ≤ 65000) := by unfold Hid; omega
    obtain ⟨J1, hJ1e⟩ : ∃ J1, J1 = j + 1 := ⟨_, rfl⟩
    have hw1 : IntKind.i64.wrap (J1 : Nat) = (J1 : Nat) := by rw [IntKind.wrap_i64]; omega
    have hw2 : (j : Int) + 1 = (J1 : Nat) := by omega
    have HPJ : Hid ((pre ++ [j]).length = J1) := by unfold Hid; rw [List.length_append, ← hj0, hJ1e]; rfl
    have HQJ : Hid (qs.length + 1 = J1) := by unfold Hid; rw [hq, hJ1e]
    have HV1 : Hid (V1 = V.setCell ⟨W.heap.size + 1, 4, none⟩ (.slice (some ⟨bb, off + 112 * j, none⟩) E E)) := hV1
    have HKV : Hid (Kept (fun k => k ≠ W.heap.size + 1) V V1) := kV1
    have HS1 : Hid (V1.heap.size = X.heap.size) := hs1
    have HB1 : Hid (Boxed V1 W.heap.size 93 (.func (.yield l) #[] #[]) ∧ PA V1 (W.heap.size + 1) false e n (j : Nat) (.slice (some ⟨bb, off + 112 * j, none⟩) E E)) := ⟨bY1, bP1⟩
    have HN : Hid (¬ Dj W.heap.size ∧ ¬ Dj (W.heap.size + 1)) := ⟨nY, nP⟩
    have HQ : Hid (qs.length = j) := hq
    obtain ⟨q0, q1, q2, q3, q4⟩ := bPV.cells
    have f4 := bPV.frozen 4
    have cY := bYV.cell
    rw [hV1] at hy
    have HX1 : Hid (W.heap.size + 1 < X.heap.size) := bP.lt
    clear hRd hoc hJ1 kR kV1 hs1 bY1 bP1 hV1 nl1 nlY nlP bY bP hj hq nY nP hkR hE hj0 hVk hJ1e
    gi_wp2
    rw [← HV1.out]
    refine RoundIn.mono (RoundIn.into HRd.out) ?_
    rintro x W3 ⟨hs3, (⟨rfl, D2, hJ3, hg3⟩ | ⟨rfl, D2, hJ3, hg3⟩)⟩
    · have bP3 : PA W3 (W.heap.size + 1) false e n (j : Nat) (.slice (some ⟨bb, off + 112 * j, none⟩) E E) := (hs3.block _ ⟨HB1.out.2.lt, HN.out.2⟩).trans HB1.out.2
      have bY3 : Boxed W3 W.heap.size 93 (.func (.yield l) #[] #[]) := (hs3.block _ ⟨HB1.out.1.lt, HN.out.1⟩).trans HB1.out.1
      have HP3 : Hid (PA (W3.setCell ⟨W.heap.size + 1, 3, none⟩ (.int .i64 (J1 : Nat))) (W.heap.size + 1) false e n (J1 : Nat) (.slice (some ⟨bb, off + 112 * j, none⟩) E E)) := bP3.set3 _
      have HY3 : Hid (Boxed (W3.setCell ⟨W.heap.size + 1, 3, none⟩ (.int .i64 (J1 : Nat))) W.heap.size 93 (.func (.yield l) #[] #[])) := (Below.heap_setCell _ _ _ _ (show W.heap.size ≠ W.heap.size + 1 by omega)).trans bY3
      have nY2 : ¬ D2 W.heap.size := fun h => by
        rcases hg3 _ h with h | h
        · exact HN.out.1 h
        · have := HB1.out.1.lt; omega
      have nP2 : ¬ D2 (W.heap.size + 1) := fun h => by
        rcases hg3 _ h with h | h
        · exact HN.out.2 h
        · have := HB1.out.2.lt; omega
      have kW : Kept (fun k => k ≠ W.heap.size + 1) W3 (W3.setCell ⟨W.heap.size + 1, 3, none⟩ (.int .i64 (J1 : Nat))) := (Kept.refl _ _).setCell (p := ⟨W.heap.size + 1, 3, none⟩) (fun h => h rfl) _
      have HJ4 : Hid (J D2 (qs ++ [(partOf e n zs j, .slice (some ⟨bb, off + 112 * j, none⟩) E E)]) (W3.setCell ⟨W.heap.size + 1, 3, none⟩ (.int .i64 (J1 : Nat)))) := HJ.out.same _ _ _ _ hJ3 (kW.mono fun k hk e => nP2 (e ▸ hk))
      have HK4 : Hid (Kept (fun k => k < X.heap.size ∧ ¬ (Dj k ∨ k = W.heap.size ∨ k = W.heap.size + 1)) V (W3.setCell ⟨W.heap.size + 1, 3, none⟩ (.int .i64 (J1 : Nat)))) :=
        ((HKV.out.mono fun k hk e => hk.2 (.inr (.inr e))).trans (hs3.mono fun k hk => ⟨by rw [HS1.out]; exact hk.1, fun h => hk.2 (.inl h)⟩)).trans (kW.mono fun k hk e => hk.2 (.inr (.inr e)))
      have HG4 : Hid (Grew (fun k => Dj k ∨ k = W.heap.size ∨ k = W.heap.size + 1) (fun k => D2 k ∨ k = W.heap.size ∨ k = W.heap.size + 1) X.heap.size) := fun k hk => by
        rcases hk with hk | hk
        · rcases hg3 k hk with h | h
          · exact .inl (.inl h)
          · right; have := HS1.out; omega
        · exact .inl (.inr hk)
      have HN2 : Hid (¬ D2 W.heap.size ∧ ¬ D2 (W.heap.size + 1)) := ⟨nY2, nP2⟩
      obtain ⟨p0, p1, p2, p3, p4⟩ := bP3.cells
      have f3 := bP3.frozen 3
      clear hs3 hJ3 hg3 bP3 bY3 nY2 nP2 kW
      gi_wp2
      refine ⟨HK4.out, _, ⟨D2, _, some ⟨bb, off + 112 * j, none⟩, E, E, rfl, HN2.out.1, HN2.out.2, HJ4.out, ?_, HY3.out, ?_⟩, HG4.out⟩
      · rw [List.length_append, HPJ.out]; exact HQJ.out
      · rw [HPJ.out]; exact HP3.out
    · have HK4 : Hid (Kept (fun k => k < X.heap.size ∧ ¬ (Dj k ∨ k = W.heap.size ∨ k = W.heap.size + 1)) V W3) :=
        (HKV.out.mono fun k hk e => hk.2 (.inr (.inr e))).trans (hs3.mono fun k hk => ⟨by rw [HS1.out]; exact hk.1, fun h => hk.2 (.inl h)⟩)
      have HG4 : Hid (Grew (fun k => Dj k ∨ k = W.heap.size ∨ k = W.heap.size + 1) (fun k => D2 k ∨ k = W.heap.size ∨ k = W.heap.size + 1) X.heap.size) := fun k hk => by
        rcases hk with hk | hk
        · rcases hg3 k hk with h | h
          · exact .inl (.inl h)
          · right; have := HS1.out; omega
        · exact .inl (.inr hk)
      have HJ4 : Hid (Jx D2 (qs ++ [(partOf e n zs j, .slice (some ⟨bb, off + 112 * j, none⟩) E E)]) W3) := hJ3
      have HZ4 : Hid (W.heap.size + 1 < W3.heap.size) := by have h1 := hs3.size; have h2 := HS1.out; have h3 := HX1.out; unfold Hid; omega
      clear hs3 hJ3 hg3
      gi_wp2
      exact ⟨HK4.out, _, ⟨rfl, D2, _, rfl, HJ4.out, HZ4.out⟩, HG4.out⟩
  case done =>
    rintro dd D1 xs X hdd hnd hS ⟨Dj, qs, a', l', c', rfl, nY, nP, hj, hq, bY, bP⟩ hgr hsp hK
    have hXW : W.heap.size + 1 < X.heap.size := bP.lt
    have hV0X : V0.heap.size ≤ X.heap.size := hsp.size
    have hdX : dd < X.heap.size := lt_of_heap hK
    have HQK : Hid (qs.length = partsN zs.length) := by unfold Hid; rw [hq, hS, List.length_range, chunks_parts, HLEN.out]
    have HXP : Hid (xs.length = partsN zs.length) := by unfold Hid; rw [hS, List.length_range, chunks_parts, HLEN.out]
    rw [HXP.out] at bP
    have HDD : Hid (V0.heap.size ≤ dd ∧ ¬ Dj dd) := ⟨hdd, fun h => hnd (.inl h)⟩
    have HKD : Hid (X.heap[dd]? = some (.deferred (some []))) := hK
    have HRX : Hid (Kept R W0 X) := HKW.out X (hsp.mono fun k hk => ⟨HR2.out k hk, fun hd => by
      rcases hk with hk | hk | hk
      · have := HRn.out k hk
        rcases hd with hd | hd | hd
        · exact HRD.out k hk hd
        · omega
        · omega
      · rcases hd with hd | hd | hd
        · have := hDlt k hd; omega
        · omega
        · omega
      · rcases hd with hd | hd | hd
        · have := hDlt k hd; omega
        · omega
        · omega⟩)
    have HSX : Hid (Spared D W X) := (Kept.ofBelow HB0.out fun k hk => hk.1).trans (hsp.mono fun k hk => ⟨by have := hk.1; omega, fun hd => by
      have := hk.1
      rcases hd with hd | hd | hd
      · exact hk.2 hd
      · omega
      · omega⟩)
    have HGX : Hid (Grew D Dj W.heap.size) := fun k hk => by
      rcases hgr k (.inl hk) with (h | h | h) | h
      · exact .inl h
      · exact absurd (h ▸ hk) nY
      · exact absurd (h ▸ hk) nP
      · right; omega
    have HOXX := HOX.out X HRX.out
    have HN : Hid (¬ Dj W.heap.size ∧ ¬ Dj (W.heap.size + 1)) := ⟨nY, nP⟩
    have HJX : Hid (J Dj qs X) := hj
    have HBY : Hid (Boxed X W.heap.size 93 (.func (.yield l) #[] #[])) := bY
    have HBP : Hid (PA X (W.heap.size + 1) false e n (partsN zs.length : Nat) (.slice a' l' c')) := bP
    have cX : X.cell? ⟨B3, 0, none⟩ = some (.slice (some ⟨bb, off, none⟩) L cap) := (HRX.out.cell (p := ⟨B3, 0, none⟩) HR3.out).trans HC3.out
    have hsum := crcSum_lt zs HO.out.small
    have hwS : IntKind.i64.wrap (crcSum zs : Nat) = (crcSum zs : Nat) := by rw [IntKind.wrap_i64]; omega
    obtain ⟨SM, hSM⟩ : ∃ SM, SM = crcSum zs := ⟨_, rfl⟩
    have HSM : Hid (crcSum zs = SM) := hSM.symm
    rw [← hSM] at hwS
    obtain ⟨PN, hPN⟩ : ∃ PN, PN = partsN zs.length := ⟨_, rfl⟩
    rw [← hPN] at HBP
    have HPN : Hid (partsN zs.length = PN) := hPN.symm
    clear hj bY bP hS hq hgr hsp hK nY nP hSM hsum hPN hnd
    gi_wp2_with fail
    refine ⟨trivial, callsIn_wide.2 ((sum_box X X.heap.size rfl _ zs HOXX.1 HOXX.2).mono ?_)⟩
    rintro x W5 ⟨rfl, rfl⟩
    rw [HSM.out]
    gi_wp2_with fail
    refine ⟨trivial, callsIn_wide.2 ((lay_octs SM 4 _).mono ?_)⟩
    rintro x W6 ⟨u, rfl, ho6, hb6⟩
    have hbX : Below X.heap.size X W6 := ((Below.refl _ X).alloc (Nat.le_refl _) _).trans (hb6.mono (by simp))
    rw [show cl 4 8 = 4 by decide, ← HSM.out] at ho6
    obtain ⟨ua, uc, hu⟩ := ho6.shape
    subst hu
    obtain ⟨ul, hul⟩ : ∃ ul, ul = (octZ (crcSum zs : Nat) 4).length := ⟨_, rfl⟩
    rw [← hul] at ho6 ⊢
    clear hul
    have bP6 : PA W6 (W.heap.size + 1) false e n (PN : Nat) (.slice a' l' c') := HBP.out.same hbX hXW
    have bY6 : Boxed W6 W.heap.size 93 (.func (.yield l) #[] #[]) := (hbX.block _ (by omega)).trans HBY.out
    have nO6 : NoOct W6 (W.heap.size + 1) := bP6.noOct
    obtain ⟨V8, hV8⟩ : ∃ V8, V8 = (W6.setCell ⟨W.heap.size + 1, 0, none⟩ (.bool true)).setCell ⟨W.heap.size + 1, 4, none⟩ (.slice ua ul uc) := ⟨_, rfl⟩
    have on8 : Only (W.heap.size + 1) W6 V8 := by rw [hV8]; exact ((Only.refl _ _).setCell _ _).setCell _ _
    have hs8 : V8.heap.size = W6.heap.size := by rw [hV8]; simp
    have bP8 : PA V8 (W.heap.size + 1) true e n (PN : Nat) (.slice ua ul uc) := by rw [hV8]; exact (heap_set_row ((heap_set_row bP6 0 _).trans rfl) 4 _).trans rfl
    have bY8 : Boxed V8 W.heap.size 93 (.func (.yield l) #[] #[]) := (on8.heap (by have := hbX.size; omega) (by omega)).trans bY6
    have k8 : Kept (fun k => k < X.heap.size ∧ k ≠ W.heap.size + 1) X V8 := (Kept.ofBelow hbX fun k hk => hk.1).trans (Kept.mono on8 fun k hk => ⟨by have := hbX.size; have := hk.1; omega, hk.2⟩)
    have hJ8 : J Dj qs V8 := HJ.out.same _ _ _ _ HJX.out (k8.mono fun k hk => ⟨HJ.out.lt _ _ _ HJX.out k hk, fun e => HN.out.2 (e ▸ hk)⟩)
    have hR8 : Kept R W0 V8 := HRX.out.trans (k8.mono fun k hk => by have := HRn.out k hk; exact ⟨by omega, by omega⟩)
    have ho8 : Octs V8 (.slice ua ul uc) (footOf e n zs).data := ho6.only nO6 on8
    obtain ⟨fn, tmps, assign, body, hy, hRd⟩ := HY.out Dj qs (footOf e n zs, .slice ua ul uc) V8 hJ8 ⟨⟨ho8, .inr ⟨HQK.out, rfl⟩⟩, hR8⟩ 5
    have HRd : Hid _ := hRd
    dsimp only [partEnc, pval, footOf] at hy
    rw [HPN.out] at hy
    have HK8 : Hid (X.heap.size ≤ V8.heap.size ∧ Kept (fun k => k < X.heap.size ∧ k ≠ W.heap.size + 1) X V8) := ⟨by have := hbX.size; omega, k8⟩
    have HV8 : Hid (V8 = (W6.setCell ⟨W.heap.size + 1, 0, none⟩ (.bool true)).setCell ⟨W.heap.size + 1, 4, none⟩ (.slice ua ul uc)) := hV8
    obtain ⟨q0, q1, q2, q3, q4⟩ := bP6.cells
    have f0 := bP6.frozen 0
    have f4 := bP6.frozen 4
    have cY := bY6.cell
    rw [hV8] at hy
    clear hRd ho8 hR8 hJ8 k8 bY8 bP8 hs8 on8 hV8 nO6 bY6 bP6 ho6 hb6 hbX cX HOXX
    gi_wp2
    rw [← HV8.out]
    refine RoundIn.mono (RoundIn.any HRd.out) ?_
    have HEND : Hid (∀ (D2 : Nat → Prop) (W9 : World), Spared Dj V8 W9 → Grew Dj D2 V8.heap.size → W9.heap[dd]? = some (.deferred (some [])) ∧ ¬ D2 dd ∧ Spared D W (W9.putObj dd (.deferred none)) ∧ Grew D D2 W.heap.size) := fun D2 W9 hs9 hg9 => by
      have hd8 : V8.heap[dd]? = some (.deferred (some [])) := (HK8.out.2.block dd ⟨hdX, by have := HDD.out.1; omega⟩).trans HKD.out
      have hdlt : dd < V8.heap.size := lt_of_heap hd8
      have hd9 : W9.heap[dd]? = some (.deferred (some [])) := (hs9.block dd ⟨hdlt, HDD.out.2⟩).trans hd8
      have k1 : Spared D W V8 := Kept.trans HSX.out (HK8.out.2.mono fun k hk => ⟨by have := hk.1; omega, by have := hk.1; omega⟩)
      refine ⟨hd9, fun h => ?_, ?_, HGX.out.trans hg9 (by have := HK8.out.1; omega)⟩
      · rcases hg9 dd h with h | h
        · exact HDD.out.2 h
        · omega
      · exact Kept.trans (Spared.trans k1 (HGX.out) hs9) (Kept.putObj _ _ _ _ (fun h => by have := h.1; have := HDD.out.1; omega) (fun k hk => by have := hk.1; have := hs9.size; have := HK8.out.1; omega))
    rintro x W9 ⟨hs9, (⟨rfl, D2, hJ9, hg9⟩ | ⟨rfl, D2, hJ9, hg9⟩)⟩
    · obtain ⟨e1, e2, e3, e4⟩ := HEND.out D2 W9 hs9 hg9
      have HJ9 : Hid (J D2 (qs ++ [(footOf e n zs, .slice ua ul uc)]) (W9.putObj dd (.deferred none))) := HJ.out.same _ _ _ _ hJ9 (Kept.putObj _ _ _ _ e2 (HJ.out.lt _ _ _ hJ9))
      have HE : Hid (Spared D W (W9.putObj dd (.deferred none)) ∧ Grew D D2 W.heap.size) := ⟨e3, e4⟩
      clear hs9 hg9 hJ9 e2 e3 e4 HEND
      gi_wp2
      refine ⟨by simp, .inl ⟨_, _, rfl, run_takeDeferred e1, ?_⟩⟩
      exact ⟨_, results_none rfl _ _ _, ⟨_, rfl⟩, HE.out.1, .inl ⟨_, D2, by rw [List.length_append, HQK.out]; rfl, HJ9.out, HE.out.2⟩⟩
    · obtain ⟨e1, e2, e3, e4⟩ := HEND.out D2 W9 hs9 hg9
      have HJ9 : Hid (Jx D2 (qs ++ [(footOf e n zs, .slice ua ul uc)]) (W9.putObj dd (.deferred none))) := HJx.out.same _ _ _ _ hJ9 (Kept.putObj _ _ _ _ e2 (HJx.out.lt _ _ _ hJ9))
      have HE : Hid (Spared D W (W9.putObj dd (.deferred none)) ∧ Grew D D2 W.heap.size) := ⟨e3, e4⟩
      clear hs9 hg9 hJ9 e2 e3 e4 HEND
      gi_wp2
      refine ⟨by simp, .inl ⟨_, _, rfl, run_takeDeferred e1, ?_⟩⟩
      exact ⟨_, results_none rfl _ _ _, ⟨_, rfl⟩, HE.out.1, .inr ⟨_, D2, trivial, HJ9.out, HE.out.2⟩⟩
  case stop =>
    rintro dd c D1 pre X hdd hnd _ ⟨rfl, Dj, qs, rfl, hj, hs⟩ hgr hsp hK
    have hdX : dd < X.heap.size := lt_of_heap hK
    have HE : Hid (Spared D W (X.putObj dd (.deferred none)) ∧ Grew D Dj W.heap.size ∧ Jx Dj qs (X.putObj dd (.deferred none))) := by
      refine ⟨?_, fun k hk => ?_, ?_⟩
      · have k1 : Spared D W X := (Kept.ofBelow HB0.out fun k hk => hk.1).trans (hsp.mono fun k hk => ⟨by have := hk.1; omega, fun hd => by
          have := hk.1
          rcases hd with hd | hd | hd
          · exact hk.2 hd
          · omega
          · omega⟩)
        exact Kept.trans k1 (Kept.putObj _ _ _ _ (fun h => by have := h.1; omega) (fun k hk => by have := hk.1; have := hsp.size; omega))
      · rcases hgr k (.inl hk) with (h | h | h) | h
        · exact .inl h
        · right; omega
        · right; omega
        · right; omega
      · exact HJx.out.same _ _ _ _ hj (Kept.putObj _ _ _ _ (fun h => hnd (.inl h)) (HJx.out.lt _ _ _ hj))
    clear hj hgr hsp hnd
    gi_wp2
    refine ⟨by simp, .inl ⟨_, _, rfl, run_takeDeferred hK, ?_⟩⟩
    exact ⟨_, results_none rfl _ _ _, ⟨_, rfl⟩, HE.out.1, .inr ⟨_, Dj, trivial, HE.out.2.2, HE.out.2.1⟩⟩
end Go.Proofs.YthhdkadjlddmkaaDoor

/- 'append(own, octets...)' inside a fence. Generic over the program. -/
namespace Go.Proofs.YthhdkadjlddmkaaDoor
open Go.RowKit
set_option linter.unusedVariables false

theorem wpListIn_append_octs {F : Fence} {nF : Nat} {P : Program} (w : World) {ops : Array Oper} {rest : List Oper} {o : Oper} {a : Act} {Q : Exit → Act → World → Prop} (hgd : o.guard = none) (s x : Operand) (t : TypeId)
    (ho : o.op = .call { callee := .builtin .append, args := #[s, x], argTypes := #[t, t] })
    (base : Nat) (e : TypeId) (i : TypeInfo) (ht : P.underlying t = some (.slice e)) (hi : P.info? e = some i) (hz : i.zero = some (.int .u8 0)) (hsize : i.size = 1) (hby : i.bytes = 1)
    (v : Value) (n : Nat) (xs : List Nat) (hs : a.eval s = v) (hown : w.ownsRow base e 1 v n (u8s xs))
    (y : Value) (zs : List Nat) (hx : a.eval x = y) (hsrc : Octs w y zs) (h63 : n + zs.length ≤ 140737488355328) (hbase : base ≤ w.heap.size)
    (h : ∀ v' w', w'.ownsRow base e 1 v' (n + zs.length) (u8s (xs ++ zs)) → w.grownBy w' v.ownBlock → wpListIn F nF P ops Q rest (a.put o.dst v') w') : wpListIn F nF P ops Q (o :: rest) a w := by
  obtain ⟨h1, h2, ad, cap, rfl, h3, h4, h5⟩ := hsrc
  rcases h5 with ⟨rfl, rfl⟩ | ⟨ad, rfl, h5⟩
  · obtain rfl : zs = [] := List.eq_nil_of_length_eq_zero (by omega)
    refine wpListIn_plain hgd fun K hK' => ?_
    have hrun := run_append_owned_none (P := P) (w := w) base t o.type e i 1 ht hi v n _ hown
    unfold Oper.wpIn
    refine ⟨?_, ?_⟩
    · simp [Oper.about, ho, resolve, Target.leads, Sem.run_pure]
    · rw [Oper.semAt_plain F _ _ (by rw [ho]; intro c hc'; cases hc')]
      simp [execOp, ho, resolve, invoke, builtin, hs, hx, hrun, Result.andThen]
      exact hK' _ _ (h v w (by simpa using hown) (World.grownBy.refl _ _))
  · refine wpListIn_append_own w hgd s x t ho base e i (.int .u8 0) 1 1 ht hi hz hsize hby rfl (by decide) v n _ hs hown ad zs.length cap (u8s zs) hx (by rw [u8s_length, Nat.mul_one]) ?_ ?_ (by unfold maxLen; omega) (by omega) hbase ?_
    · intro j u hu
      rcases h5 with rfl | ⟨b, off, rfl, hlt, hc⟩
      · simp [u8s] at hu
      · have hj : j < zs.length := by
          by_cases hj : j < zs.length
          · exact hj
          · rw [List.getElem?_eq_none (by rw [u8s_length]; omega)] at hu; cases hu
        have e1 : (⟨b, off, none⟩ : Addr).add j = ⟨b, off + j, none⟩ := by unfold Addr.add; split <;> simp_all
        rw [e1, hc j hj]
        simp [u8s, List.getElem?_eq_getElem hj] at hu ⊢
        exact hu
    · intro u hu
      simp only [u8s, List.mem_map] at hu
      obtain ⟨z, _, rfl⟩ := hu
      rfl
    · intro v' w' hw hg _
      rw [← u8s_append] at hw
      exact h v' w' hw hg
/-- .. and where the new row lies. -/
theorem wpListIn_append_octs_at {F : Fence} {nF : Nat} {P : Program} (w : World) {ops : Array Oper} {rest : List Oper} {o : Oper} {a : Act} {Q : Exit → Act → World → Prop} (hgd : o.guard = none) (s x : Operand) (t : TypeId)
    (ho : o.op = .call { callee := .builtin .append, args := #[s, x], argTypes := #[t, t] })
    (base : Nat) (e : TypeId) (i : TypeInfo) (ht : P.underlying t = some (.slice e)) (hi : P.info? e = some i) (hz : i.zero = some (.int .u8 0)) (hsize : i.size = 1) (hby : i.bytes = 1)
    (v : Value) (n : Nat) (xs : List Nat) (hs : a.eval s = v) (hown : w.ownsRow base e 1 v n (u8s xs))
    (y : Value) (zs : List Nat) (hx : a.eval x = y) (hsrc : Octs w y zs) (h63 : n + zs.length ≤ 140737488355328) (hbase : base ≤ w.heap.size)
    (h : ∀ v' w', w'.ownsRow base e 1 v' (n + zs.length) (u8s (xs ++ zs)) → w.grownBy w' v.ownBlock → (v'.ownBlock = v.ownBlock ∨ v'.ownBlock = some w.heap.size) → wpListIn F nF P ops Q rest (a.put o.dst v') w') : wpListIn F nF P ops Q (o :: rest) a w := by
  obtain ⟨h1, h2, ad, cap, rfl, h3, h4, h5⟩ := hsrc
  rcases h5 with ⟨rfl, rfl⟩ | ⟨ad, rfl, h5⟩
  · obtain rfl : zs = [] := List.eq_nil_of_length_eq_zero (by omega)
    refine wpListIn_plain hgd fun K hK' => ?_
    have hrun := run_append_owned_none (P := P) (w := w) base t o.type e i 1 ht hi v n _ hown
    unfold Oper.wpIn
    refine ⟨?_, ?_⟩
    · simp [Oper.about, ho, resolve, Target.leads, Sem.run_pure]
    · rw [Oper.semAt_plain F _ _ (by rw [ho]; intro c hc'; cases hc')]
      simp [execOp, ho, resolve, invoke, builtin, hs, hx, hrun, Result.andThen]
      exact hK' _ _ (h v w (by simpa using hown) (World.grownBy.refl _ _) (.inl rfl))
  · refine wpListIn_append_own_at w hgd s x t ho base e i (.int .u8 0) 1 1 ht hi hz hsize hby rfl (by decide) v n _ hs hown ad zs.length cap (u8s zs) hx (by rw [u8s_length, Nat.mul_one]) ?_ ?_ (by unfold maxLen; omega) (by omega) hbase ?_
    · intro j u hu
      rcases h5 with rfl | ⟨b, off, rfl, hlt, hc⟩
      · simp [u8s] at hu
      · have hj : j < zs.length := by
          by_cases hj : j < zs.length
          · exact hj
          · rw [List.getElem?_eq_none (by rw [u8s_length]; omega)] at hu; cases hu
        have e1 : (⟨b, off, none⟩ : Addr).add j = ⟨b, off + j, none⟩ := by unfold Addr.add; split <;> simp_all
        rw [e1, hc j hj]
        simp [u8s, List.getElem?_eq_getElem hj] at hu ⊢
        exact hu
    · intro u hu
      simp only [u8s, List.mem_map] at hu
      obtain ⟨z, _, rfl⟩ := hu
      rfl
    · intro v' w' hw hg _ hat
      rw [← u8s_append] at hw
      exact h v' w' hw hg hat
end Go.Proofs.YthhdkadjlddmkaaDoor

/- Contract of the program's 'Cut'. -/
namespace Go.Proofs.YthhdkadjlddmkaaDoor
open Go.RowKit Go.Shelf
set_option linter.unusedVariables false
attribute [local go_sem] Oper.semAt_some

/-- The sectors of the first j. -/
def cutK (e n : Int) (zs : List Nat) (j : Nat) : List Nat := if j ≤ partsN zs.length then cutN e n zs j else cutS e n zs
theorem cutK_zero (e n : Int) (zs : List Nat) : cutK e n zs 0 = [] := by unfold cutK; rw [if_pos (Nat.zero_le _)]; rfl
theorem cutK_all (e n : Int) (zs : List Nat) : cutK e n zs (partsN zs.length + 1) = cutS e n zs := by unfold cutK; rw [if_neg (by omega)]
theorem cutK_part (e n : Int) (zs : List Nat) (j : Nat) (h : j < partsN zs.length) : cutK e n zs j ++ sect6 (partOf e n zs j) = cutK e n zs (j + 1) := by
  unfold cutK; rw [if_pos (by omega), if_pos (by omega)]; rfl
theorem cutK_foot (e n : Int) (zs : List Nat) : cutK e n zs (partsN zs.length) ++ sect6 (footOf e n zs) = cutK e n zs (partsN zs.length + 1) := by
  rw [cutK_all]; unfold cutK; rw [if_pos (Nat.le_refl _)]; rfl
theorem cutK_length (e n : Int) (zs : List Nat) (j : Nat) (h : j ≤ partsN zs.length + 1) : (cutK e n zs j).length = 128 * j := by
  unfold cutK
  split
  · exact cutN_length e n zs j
  · rw [cutS_length]; omega
theorem cutK_small {zs : List Nat} (h : ∀ z ∈ zs, z < 256) (e n : Int) (j : Nat) : ∀ z ∈ cutK e n zs j, z < 256 := by
  unfold cutK
  split
  · exact cutN_small h e n j
  · exact cutS_small h e n
/-- Between two rounds: its boxes, and the sectors so far. -/
def cutI (m C : Nat) (e n : Int) (zs : List Nat) (D1 : Nat → Prop) (pre : List (Part × Value)) (X : World) : Prop :=
  D1 = (fun k => k = m ∨ k = m + 1 ∨ k = m + 2 ∨ k = m + 3) ∧ pre.length ≤ partsN zs.length + 1 ∧ Boxed X m 32 (.slice none 0 0) ∧ Boxed X (m + 1) 25 (.int .i64 0) ∧ Boxed X (m + 3) 32 (.slice (some ⟨m + 2, 0, none⟩) (128 * pre.length) C) ∧ X.ownsRow m 5 1 (.slice (some ⟨m + 2, 0, none⟩) (128 * pre.length) C) (128 * pre.length) (u8s (cutK e n zs pre.length))
theorem cutI_local (m C : Nat) (e n : Int) (zs : List Nat) : Local (cutI m C e n zs) := by
  refine ⟨?_, ?_⟩
  · rintro D1 pre X ⟨rfl, hp, b1, b2, b3, ho⟩ k hk
    have := b3.lt
    rcases hk with rfl | rfl | rfl | rfl <;> omega
  · rintro D1 pre X X' ⟨rfl, hp, b1, b2, b3, ho⟩ hk
    exact ⟨rfl, hp, (hk.block _ (.inl rfl)).trans b1, (hk.block _ (.inr (.inl rfl))).trans b2, (hk.block _ (.inr (.inr (.inr rfl)))).trans b3, ownsRow_same ho fun g hg => hk.block g (.inr (.inr (.inl (by cases hg; rfl))))⟩
theorem results_cell_cell {fn : Func} {t u : Tmp} {ty ty2 : TypeId} (h : fn.results = #[.cell t ty, .cell u ty2]) {tmps : Array Value} {P : Program} {w : World} {a b : Addr} {v x : Value} (h2 : tmps.getD t undef = .pointer (some a)) (h3 : tmps.getD u undef = .pointer (some b)) (hld : (loadVar ty a).run P w = .ok v w) (hld2 : (loadVar ty2 b).run P w = .ok x w) : (results fn tmps).run P w = .ok (.tuple #[v, x]) w := by
  have h4 : tmps[t]?.getD undef = .pointer (some a) := by rw [← h2]; simp
  have h5 : tmps[u]?.getD undef = .pointer (some b) := by rw [← h3]; simp
  simp only [results, h]
  simp [asAddr, hld, hld2, h4, h5]
theorem false_local {α : Type} : Local (fun (_ : Nat → Prop) (_ : α) (_ : World) => False) := ⟨fun _ _ _ h => h.elim, fun _ _ _ _ h _ => h.elim⟩
theorem Tryd.make6 (n : Nat) (hn : n ≤ 100000) (W : World) : (Instr.makeSlice 32 (.int .i64 0) (.int .i64 (n : Nat))).run Tryd.prog W = .ok (.slice (some ⟨W.heap.size, 0, none⟩) 0 n) (W.alloc (.cells (u8s (zl n)).toArray 5)) := by
  obtain ⟨i0, hi, hz0, hz1, hz2⟩ := info_parts Tryd.infoU8'
  have := run_make (P := Tryd.prog) W 32 5 i0 _ Tryd.underlying32 hi hz0 .i64 .i64 0 (n : Nat) (by omega) (by omega) (by rw [hz2]; omega) (by omega)
  rw [this, hz1, Nat.mul_one, Int.toNat_natCast, made_u8]
  rfl

set_option maxRecDepth 20000 in
set_option maxHeartbeats 1000000 in
theorem cut6_at (e n : Int) (v : Value) (zs : List Nat) (w : World) (hid : okId e n = true) (ho : Octs w v zs) (hl1 : 1 ≤ zs.length) (hl2 : zs.length ≤ 65000) (ht : Steps w) :
    Calls Tryd.prog 25 #[.int .i64 e, .int .i64 n, v] w fun x w' => ∃ u, x = .returned (.tuple #[u, .int .i64 0]) ∧ Octs w' u (cutS e n zs) ∧ Below w.heap.size w w' ∧ ∃ T C, u = .slice (some ⟨w.heap.size + 2, 0, none⟩) T C := by
  obtain ⟨a, cap, rfl⟩ := ho.shape
  obtain ⟨bb, off, rfl, hbb, -⟩ := ho.addr hl1
  obtain ⟨L, hL⟩ : ∃ L, L = zs.length := ⟨_, rfl⟩
  rw [← hL] at ho hl1 hl2 ⊢
  have HO : Hid (Octs w (.slice (some ⟨bb, off, none⟩) L cap) zs) := ho
  have HT : Hid (Steps w) := ht
  have HID : Hid (okId e n = true) := hid
  have hcap := ho.capLe
  obtain ⟨C, hC⟩ : ∃ C, C = 128 * (partsN L + 1) := ⟨_, rfl⟩
  obtain ⟨S, hS⟩ : ∃ S, S = partsN L + 1 := ⟨_, rfl⟩
  have hpn : partsN L ≤ 600 := by unfold partsN; omega
  have HSE : Hid ((if 1 ≤ (L : Int) ∧ (L : Int) ≤ 65000 then ((L : Int) + 111) / 112 + 1 else 0) = (S : Nat)) := by
    unfold Hid; rw [if_pos (by omega), hS]; unfold partsN; omega
  have hS0 : ¬ (S : Int) = 0 := by omega
  have hSC : (S : Int) * 128 = (C : Nat) := by omega
  have hwC : IntKind.i64.wrap (C : Nat) = (C : Nat) := by rw [IntKind.wrap_i64]; omega
  have hmk := Tryd.make6 C (by omega)
  have HC : Hid (C ≤ 100000) := by unfold Hid; omega
  have HLE : Hid (L = zs.length) := hL
  have HCC : Hid (C = 128 * (partsN zs.length + 1)) := by unfold Hid; rw [hC, hL]
  have HLL : Hid ((1 : Nat) ≤ L ∧ L ≤ 65000) := ⟨hl1, hl2⟩
  clear ho ht hid hC hS hL hpn
  refine (callsIn_wide (n := 6)).1 (callsIn_of_wp_marks (F := Fence.wide) (n := 6) Tryd.func25 rfl trivial ?_ rfl)
  simp only [Tryd.ntmps25, List.size_toArray, List.length_cons, List.length_nil, Nat.reduceAdd, Nat.reduceSub, Array.replicate_succ, Array.replicate_zero, List.push_toArray, List.append_toArray, List.nil_append, List.cons_append]
  gi_wp2_with fail
  refine ⟨trivial, callsIn_wide.2 ((sectors6 L _ (by omega) (by omega)).mono ?_)⟩
  rintro x w1 ⟨rfl, rfl⟩
  rw [HSE.out]
  gi_wp2_with fail
  obtain ⟨V3, hV3⟩ : ∃ V3, V3 = (((w.alloc (.cells #[.slice none 0 0] 32)).alloc (.cells #[.int .i64 0] 25)).alloc (.cells (u8s (zl C)).toArray 5)).alloc (.cells #[.slice (some ⟨w.heap.size + 2, 0, none⟩) 0 C] 32) := ⟨_, rfl⟩
  have at1 : ∀ (A : World) (o : Obj) (k : Nat), k < A.heap.size → (A.alloc o).heap[k]? = A.heap[k]? := fun A o k hk => Below.heap_alloc A o k hk
  have hsz3 : V3.heap.size = w.heap.size + 4 := by rw [hV3]; simp
  have hB3 : Below w.heap.size w V3 := by
    rw [hV3]
    exact ((((Below.refl _ w).alloc (Nat.le_refl _) _).alloc (by simp) _).alloc (by simp <;> omega) _).alloc (by simp <;> omega) _
  have x6 : Boxed V3 w.heap.size 32 (.slice none 0 0) := by
    unfold Boxed; rw [hV3, at1 _ _ _ (by simp <;> omega), at1 _ _ _ (by simp <;> omega), at1 _ _ _ (by simp)]; exact World.alloc_heap_new w _
  have x7 : Boxed V3 (w.heap.size + 1) 25 (.int .i64 0) := by
    unfold Boxed; rw [hV3, at1 _ _ _ (by simp <;> omega), at1 _ _ _ (by simp)]
    have := World.alloc_heap_new (w.alloc (.cells #[.slice none 0 0] 32)) (.cells #[.int .i64 0] 25)
    rwa [World.size_alloc] at this
  have x8 : V3.heap[w.heap.size + 2]? = some (.cells (u8s (zl C)).toArray 5 (0, 0)) := by
    rw [hV3, at1 _ _ _ (by simp)]
    have := World.alloc_heap_new ((w.alloc (.cells #[.slice none 0 0] 32)).alloc (.cells #[.int .i64 0] 25)) (.cells (u8s (zl C)).toArray 5)
    rwa [World.size_alloc, World.size_alloc] at this
  have x9 : Boxed V3 (w.heap.size + 3) 32 (.slice (some ⟨w.heap.size + 2, 0, none⟩) 0 C) := by
    unfold Boxed; rw [hV3]
    have := World.alloc_heap_new (((w.alloc (.cells #[.slice none 0 0] 32)).alloc (.cells #[.int .i64 0] 25)).alloc (.cells (u8s (zl C)).toArray 5)) (.cells #[.slice (some ⟨w.heap.size + 2, 0, none⟩) 0 C] 32)
    rwa [World.size_alloc, World.size_alloc, World.size_alloc] at this
  have hV3' := hV3
  rw [show w.heap.size + 2 = w.heap.size + 1 + 1 from rfl] at hV3'
  rw [← hV3']
  clear hV3 hV3' at1
  have HSZ3 : Hid (V3.heap.size = w.heap.size + 4) := hsz3
  clear hsz3
  refine ⟨trivial, callsIn_wide.2 ((parts_v V3 e n _ (some ⟨bb, off, none⟩) L cap rfl).mono ?_)⟩
  rintro x V00 ⟨rfl, rfl⟩
  gi_wp2_with fail
  obtain ⟨V0, hV0⟩ : ∃ V0, V0 = ((V3.alloc (.cells #[.int .i64 e] 3)).alloc (.cells #[.int .i64 n] 3)).alloc (.cells #[.slice (some ⟨bb, off, none⟩) L cap] 32) := ⟨_, rfl⟩
  rw [← hV0]
  have hsz3 := HSZ3.out
  have hsz0 : V0.heap.size = w.heap.size + 7 := by rw [hV0]; simp; omega
  have hB0 : Below V3.heap.size V3 V0 := by rw [hV0]; exact (((Below.refl _ V3).alloc (Nat.le_refl _) _).alloc (by simp) _).alloc (by simp <;> omega) _
  have y1 : Boxed V0 V3.heap.size 3 (.int .i64 e) := by rw [hV0]; exact ((Boxed.new V3 _ _).alloc _).alloc _
  have y2 : Boxed V0 (V3.heap.size + 1) 3 (.int .i64 n) := by
    rw [hV0]
    have := (Boxed.new (V3.alloc (.cells #[.int .i64 e] 3)) 3 (.int .i64 n)).alloc (.cells #[.slice (some ⟨bb, off, none⟩) L cap] 32)
    rwa [World.size_alloc] at this
  have y3 : Boxed V0 (V3.heap.size + 2) 32 (.slice (some ⟨bb, off, none⟩) L cap) := by
    rw [hV0]
    have := Boxed.new ((V3.alloc (.cells #[.int .i64 e] 3)).alloc (.cells #[.int .i64 n] 3)) 32 (.slice (some ⟨bb, off, none⟩) L cap)
    rwa [World.size_alloc, World.size_alloc] at this
  clear hV0
  have hBw : Below w.heap.size w V0 := hB3.trans (hB0.mono (by omega))
  obtain ⟨m, hm⟩ : ∃ m, m = w.heap.size := ⟨_, rfl⟩
  have own0 : V0.ownsRow m 5 1 (.slice (some ⟨m + 2, 0, none⟩) 0 C) 0 [] := by
    refine ⟨rfl, .inr ⟨m + 2, C, (u8s (zl C)).toArray, rfl, by omega, ?_, Nat.zero_le _, by have := HC.out; unfold maxLen; omega, by simp [u8s_length, zl_length], by simp⟩⟩
    rw [hm]; exact (hB0.block _ (by omega)).trans x8
  have I0 : cutI m C e n zs (fun k => k = m ∨ k = m + 1 ∨ k = m + 2 ∨ k = m + 3) [] V0 := by
    refine ⟨rfl, Nat.zero_le _, ?_, ?_, ?_, ?_⟩
    · rw [hm]; exact (hB0.block _ (by omega)).trans x6
    · rw [hm]; exact (hB0.block _ (by omega)).trans x7
    · rw [hm]; exact (hB0.block _ (by omega)).trans x9
    · rw [show ([] : List (Part × Value)).length = 0 from rfl, cutK_zero]; exact own0
  have HCE : Hid (C = 128 * (partsN zs.length + 1)) := HCC.out
  refine wpIn_rangeSep (n := 6) (gf := 47) (lb := #[.pointer (some ⟨V3.heap.size, 0, none⟩), .pointer (some ⟨V3.heap.size + 1, 0, none⟩), .pointer (some ⟨V3.heap.size + 2, 0, none⟩)]) rfl (enters_of Tryd.func47 (by kernel_rfl) rfl)
    (parts_seq w V3.heap.size (V3.heap.size + 1) (V3.heap.size + 2) bb off L cap e n zs HO.out hl1 hl2 HT.out V0 hBw (fun k => k < m ∨ m + 4 ≤ k ∧ k < m + 7) (.inr (by omega)) (.inr (by omega)) (.inr (by omega)) (fun k hk => .inl (by omega)) (fun k hk => by omega) y1.cell y2.cell y3.cell)
    (Kept.refl _ _) (fun k hk => by omega) (fun _ => rfl) (cutI m C e n zs) (fun _ _ _ _ => False) (cutI_local _ _ _ _ _) (fun _ => false_local) (fun k => k = m ∨ k = m + 1 ∨ k = m + 2 ∨ k = m + 3) (fun k hk hd => by omega) I0 ?round ?done ?stop
  case round =>
    rintro l D1 pre ⟨p, pv⟩ X hl hnl hlo ⟨rfl, hp, b1, b2, b3, hown⟩ ⟨⟨hoc, hpart⟩, hkR⟩
    obtain ⟨pa, pc, hpv⟩ := hoc.shape
    simp only at hpv hpart hoc
    subst hpv
    have hX3 : m + 3 < X.heap.size := b3.lt
    have hok : okP p = true := by
      rcases hpart with ⟨h, rfl⟩ | ⟨h, rfl⟩
      · exact partOf_ok HID.out zs _ (by have : partsN zs.length ≤ 600 := by (rw [← HLE.out]; unfold partsN; omega)
                                         omega)
      · exact footOf_ok HID.out zs (by rw [← HLE.out]; exact hl2)
    have hnx : cutK e n zs pre.length ++ sect6 p = cutK e n zs (pre.length + 1) := by
      rcases hpart with ⟨h, rfl⟩ | ⟨h, rfl⟩
      · exact cutK_part e n zs _ h
      · rw [h]; exact cutK_foot e n zs
    have hpl : pre.length ≤ partsN zs.length := by rcases hpart with ⟨h, _⟩ | ⟨h, _⟩ <;> omega
    gi_wp2
    refine ⟨(Below.refl _ _).alloc (Nat.le_refl _) _, fun V hVk hVs => ?_⟩
    subst hm
    have hWa : Below X.heap.size X (X.alloc (.cells #[.bool p.foot, .int .i64 p.epoch, .int .i64 p.number, .int .i64 p.index, .slice pa p.data.length pc] 81)) := (Below.refl _ _).alloc (Nat.le_refl _) _
    have hlX : l < X.heap.size := by obtain ⟨r, h⟩ := hlo; exact lt_of_heap h
    have hXV : Kept (fun k => k < X.heap.size ∧ k ≠ l) X V := (Kept.ofBelow hWa fun k hk => hk.1).trans (hVk.mono fun k hk => hk.2)
    have bPV : PA V X.heap.size p.foot p.epoch p.number p.index (.slice pa p.data.length pc) := (hVk.block _ (show X.heap.size ≠ l by omega)).trans (heap_alloc_new X _)
    have hocV : Octs V (.slice pa p.data.length pc) p.data := hoc.only (loop_noOct hlo) hXV
    have v6 : Boxed V w.heap.size 32 (.slice none 0 0) := (hXV.block _ ⟨by omega, by omega⟩).trans b1
    have v7 : Boxed V (w.heap.size + 1) 25 (.int .i64 0) := (hXV.block _ ⟨by omega, by omega⟩).trans b2
    have v9 : Boxed V (w.heap.size + 3) 32 (.slice (some ⟨w.heap.size + 2, 0, none⟩) (128 * pre.length) C) := (hXV.block _ ⟨by omega, by omega⟩).trans b3
    have vown : V.ownsRow w.heap.size 5 1 (.slice (some ⟨w.heap.size + 2, 0, none⟩) (128 * pre.length) C) (128 * pre.length) (u8s (cutK e n zs pre.length)) := ownsRow_same hown fun g hg => by cases hg; exact hXV.block _ ⟨by show w.heap.size + 2 < _; omega, by show w.heap.size + 2 ≠ l; omega⟩
    have hBV : Below w.heap.size w V := (hBw.trans (hkR.below fun k hk => .inl hk)).trans ((hXV.below (B := w.heap.size) fun k hk => ⟨by omega, by omega⟩))
    have hTV : Steps V := HT.out.below hBV
    have hVs' : X.heap.size < V.heap.size := bPV.lt
    obtain ⟨q0, q1, q2, q3, q4⟩ := bPV.cells
    obtain ⟨j, hj⟩ : ∃ j, j = pre.length := ⟨_, rfl⟩
    have HJ : Hid (j = pre.length) := hj
    rw [← hj] at v9 vown hnx hpl hown b3
    have H6 : Hid (Boxed V w.heap.size 32 (.slice none 0 0) ∧ Boxed V (w.heap.size + 1) 25 (.int .i64 0) ∧ Boxed V (w.heap.size + 3) 32 (.slice (some ⟨w.heap.size + 2, 0, none⟩) (128 * j) C)) := ⟨v6, v7, v9⟩
    have HOW : Hid (V.ownsRow w.heap.size 5 1 (.slice (some ⟨w.heap.size + 2, 0, none⟩) (128 * j) C) (128 * j) (u8s (cutK e n zs j))) := vown
    have HNX : Hid (cutK e n zs j ++ sect6 p = cutK e n zs (j + 1)) := hnx
    have HOK : Hid (okP p = true) := hok
    have HD112 : Hid (p.data.length ≤ 112) := (okP_right.1 hok).data
    have HPL : Hid (j ≤ partsN zs.length) := hpl
    have HXs : Hid (w.heap.size + 3 < X.heap.size ∧ X.heap.size < V.heap.size) := ⟨hX3, hVs'⟩
    have HOC : Hid (Octs V (.slice pa p.data.length pc) p.data ∧ Steps V) := ⟨hocV, hTV⟩
    clear hj v6 v7 v9 vown hnx hok hpl hocV hTV hBV hoc hpart hkR hown b1 b2 b3 hVk hXV hWa hVs hVs' bPV
    gi_wp2_with fail
    refine ⟨trivial, CallsIn.inRound l (callsIn_wide.2 ((put6_ok p _ V HOK.out HOC.out.1 HOC.out.2).mono ?_))⟩
    rintro x W4 ⟨u, rfl, hu, hb4⟩
    have HU : Hid (Octs W4 u (sect6 p)) := hu
    have HL128 : Hid ((sect6 p).length = 128) := sect6_length p HD112.out
    have H9 : Hid (Boxed W4 w.heap.size 32 (.slice none 0 0) ∧ Boxed W4 (w.heap.size + 1) 25 (.int .i64 0) ∧ Boxed W4 (w.heap.size + 3) 32 (.slice (some ⟨w.heap.size + 2, 0, none⟩) (128 * j) C)) := ⟨(hb4.block _ H6.out.1.lt).trans H6.out.1, (hb4.block _ H6.out.2.1.lt).trans H6.out.2.1, (hb4.block _ H6.out.2.2.lt).trans H6.out.2.2⟩
    have HW4 : Hid (W4.ownsRow w.heap.size 5 1 (.slice (some ⟨w.heap.size + 2, 0, none⟩) (128 * j) C) (128 * j) (u8s (cutK e n zs j))) := ownsRow_same HOW.out fun g hg => hb4.block g (HOW.out.lt g hg).2
    have HB4 : Hid (Below V.heap.size V W4) := hb4
    obtain ⟨ua, uc, hush⟩ := hu.shape
    rw [HL128.out] at hush
    subst hush
    obtain ⟨sb, so, hsb, -, -⟩ := hu.addr (by decide)
    subst hsb
    obtain ⟨i0, hi, hz0, hz1, hz2⟩ := info_parts Tryd.infoU8'
    have c9 : W4.cell? ⟨w.heap.size + 1 + 1 + 1, 0, none⟩ = some (.slice (some ⟨w.heap.size + 2, 0, none⟩) (128 * j) C) := H9.out.2.2.cell
    have f9 : W4.frozen? ⟨w.heap.size + 1 + 1 + 1, 0, none⟩ = false := H9.out.2.2.frozen
    clear hu hb4 q0 q1 q2 q3 q4
    gi_wp2_with (gi_at_builtin; refine wpListIn_append_fits _ rfl _ _ 32 rfl w.heap.size 5 i0 1 Tryd.underlying32 hi hz1 (w.heap.size + 2) (128 * j) C _ rfl HW4.out ⟨sb, so, none⟩ 128 uc (u8s (sect6 p)) rfl (by rw [u8s_length, HL128.out]) ?s1 (u8s_one _) ?s2 ?_)
    case s1 =>
      obtain ⟨sp, sc, es, hsrc⟩ := HU.out.src
      rw [HL128.out] at es
      simp only [Value.slice.injEq] at es
      obtain ⟨es1, -, -⟩ := es
      obtain ⟨ad, ead, hcell⟩ := hsrc (by rw [u8s_length, HL128.out]; decide)
      rw [← es1] at ead
      cases ead
      exact hcell
    case s2 => rw [HCE.out]; have := HPL.out; omega
    intro W5 hown5 hg5
    have hs5 : W4.heap.size ≤ W5.heap.size := hg5.size
    have b95 : Boxed W5 (w.heap.size + 3) 32 (.slice (some ⟨w.heap.size + 2, 0, none⟩) (128 * j) C) := H9.out.2.2.kept hg5 (by simp)
    have c95 : W5.cell? ⟨w.heap.size + 1 + 1 + 1, 0, none⟩ = some (.slice (some ⟨w.heap.size + 2, 0, none⟩) (128 * j) C) := b95.cell
    have f95 : W5.frozen? ⟨w.heap.size + 1 + 1 + 1, 0, none⟩ = false := b95.frozen
    obtain ⟨W6, hW6⟩ : ∃ W6, W6 = W5.setCell ⟨w.heap.size + 3, 0, none⟩ (.slice (some ⟨w.heap.size + 2, 0, none⟩) (128 * j + 128) C) := ⟨_, rfl⟩
    have b96 : Boxed W6 (w.heap.size + 3) 32 (.slice (some ⟨w.heap.size + 2, 0, none⟩) (128 * j + 128) C) := by rw [hW6]; exact b95.set _
    have b66 : Boxed W6 w.heap.size 32 (.slice none 0 0) := by rw [hW6]; exact (H9.out.1.kept hg5 (by simp)).other (by omega) _
    have b76 : Boxed W6 (w.heap.size + 1) 25 (.int .i64 0) := by rw [hW6]; exact (H9.out.2.1.kept hg5 (by simp)).other (by omega) _
    have own6 : W6.ownsRow w.heap.size 5 1 (.slice (some ⟨w.heap.size + 2, 0, none⟩) (128 * (j + 1)) C) (128 * (j + 1)) (u8s (cutK e n zs (j + 1))) := by
      rw [← HNX.out, u8s_append, hW6]
      exact ownsRow_same hown5 fun g hg => by cases hg; exact Below.heap_setCell _ _ _ _ (show w.heap.size + 2 ≠ w.heap.size + 3 by omega)
    have k6 : Kept (fun k => k < X.heap.size ∧ ¬ (k = w.heap.size ∨ k = w.heap.size + 1 ∨ k = w.heap.size + 2 ∨ k = w.heap.size + 3)) V W6 := by
      rw [hW6]
      have k1 : Kept (fun k => k < X.heap.size ∧ ¬ (k = w.heap.size ∨ k = w.heap.size + 1 ∨ k = w.heap.size + 2 ∨ k = w.heap.size + 3)) V W4 := Kept.ofBelow HB4.out fun k hk => by have := hk.1; have := HXs.out.2; omega
      refine (k1.grown hg5 fun k hk => ⟨by have h1 := hk.1; have h2 := HXs.out.2; have h3 := HB4.out.size; omega, fun e => hk.2 (.inr (.inr (.inl (by cases e; rfl))))⟩).setCell (p := ⟨w.heap.size + 3, 0, none⟩) (fun hk => hk.2 (.inr (.inr (.inr rfl)))) _
    have HFIN : Hid (Kept (fun k => k < X.heap.size ∧ ¬ (k = w.heap.size ∨ k = w.heap.size + 1 ∨ k = w.heap.size + 2 ∨ k = w.heap.size + 3)) V W6 ∧ ∃ D', cutI w.heap.size C e n zs D' (pre ++ [(p, .slice pa p.data.length pc)]) W6 ∧ Grew (fun k => k = w.heap.size ∨ k = w.heap.size + 1 ∨ k = w.heap.size + 2 ∨ k = w.heap.size + 3) D' X.heap.size) := by
      have hlen : (pre ++ [(p, Value.slice pa p.data.length pc)]).length = j + 1 := by rw [List.length_append, HJ.out]; rfl
      refine ⟨k6, _, ⟨rfl, ?_, b66, b76, ?_, ?_⟩, Grew.refl _ _⟩
      · rw [hlen]; have := HPL.out; omega
      · rw [hlen]; exact b96
      · rw [hlen]; exact own6
    have HW6 : Hid (W6 = W5.setCell ⟨w.heap.size + 1 + 1 + 1, 0, none⟩ (.slice (some ⟨w.heap.size + 2, 0, none⟩) (128 * j + 128) C)) := hW6
    clear hown5 hg5 hs5 b95 hW6 b96 b66 b76 own6 k6 c9 f9
    gi_wp2
    rw [← HW6.out]
    exact HFIN.out
  case done =>
    rintro dd D1 xs X hdd hnd hS ⟨rfl, hp, b1, b2, b3, hown⟩ hgr hsp hK
    subst hm
    rw [hS] at b3 hown
    rw [cutK_all] at hown
    obtain ⟨T, hT⟩ : ∃ T, T = 128 * (partsN zs.length + 1) := ⟨_, rfl⟩
    rw [← hT] at b3 hown
    have hX3 : w.heap.size + 3 < X.heap.size := b3.lt
    have hddX : dd < X.heap.size := lt_of_heap hK
    have c9 : X.cell? ⟨w.heap.size + 1 + 1 + 1, 0, none⟩ = some (.slice (some ⟨w.heap.size + 2, 0, none⟩) T C) := b3.cell
    have c6 := b1.cell
    have f6 := b1.frozen
    have c7 := b2.cell
    have f7 := b2.frozen
    obtain ⟨Y, hY⟩ : ∃ Y, Y = (X.setCell ⟨w.heap.size, 0, none⟩ (.slice (some ⟨w.heap.size + 2, 0, none⟩) T C)).setCell ⟨w.heap.size + 1, 0, none⟩ (.int .i64 0) := ⟨_, rfl⟩
    have y6 : Boxed Y w.heap.size 32 (.slice (some ⟨w.heap.size + 2, 0, none⟩) T C) := by rw [hY]; exact (b1.set _).other (by omega) _
    have y7 : Boxed Y (w.heap.size + 1) 25 (.int .i64 0) := by rw [hY]; exact (b2.other (by omega) _).set _
    have hYk : Y.heap[dd]? = some (.deferred (some [])) := by rw [hY]; exact ((Below.heap_setCell _ _ _ _ (show dd ≠ w.heap.size + 1 by omega)).trans (Below.heap_setCell _ _ _ _ (show dd ≠ w.heap.size by omega))).trans hK
    have yown : Y.ownsRow w.heap.size 5 1 (.slice (some ⟨w.heap.size + 2, 0, none⟩) T C) T (u8s (cutS e n zs)) := by
      rw [hY]
      exact ownsRow_same hown fun g hg => by cases hg; exact (Below.heap_setCell _ _ _ _ (show w.heap.size + 2 ≠ w.heap.size + 1 by omega)).trans (Below.heap_setCell _ _ _ _ (show w.heap.size + 2 ≠ w.heap.size by omega))
    have hBX : Below w.heap.size w X := hBw.trans (hsp.below fun k hk => ⟨by omega, by omega⟩)
    have HBY : Hid (Below w.heap.size w (Y.putObj dd (.deferred none))) := by
      unfold Hid
      have h1 : Below w.heap.size w Y := by rw [hY]; exact (hBX.setCell (p := ⟨w.heap.size, 0, none⟩) (Nat.le_refl _) _).setCell (p := ⟨w.heap.size + 1, 0, none⟩) (by show w.heap.size ≤ w.heap.size + 1; omega) _
      exact h1.grown (grownBy_putObj' Y dd _) h1.size (fun k e => by cases e; omega)
    have HOY : Hid (Octs (Y.putObj dd (.deferred none)) (.slice (some ⟨w.heap.size + 2, 0, none⟩) T C) (cutS e n zs)) := by
      refine Octs.owned (ownsRow_same yown fun g hg => ?_) (cutS_small HO.out.small e n)
      cases hg
      exact World.putObj_heap_other (show w.heap.size + 2 ≠ dd by omega)
    have HP6 : Hid ((Y.putObj dd (.deferred none)).cell? ⟨w.heap.size, 0, none⟩ = some (.slice (some ⟨w.heap.size + 2, 0, none⟩) T C) ∧ (Y.putObj dd (.deferred none)).cell? ⟨w.heap.size + 1, 0, none⟩ = some (.int .i64 0)) :=
      ⟨(World.cell?_of_block (w := Y) (a := ⟨w.heap.size, 0, none⟩) (World.putObj_heap_other (show w.heap.size ≠ dd by omega))).trans y6.cell, (World.cell?_of_block (w := Y) (a := ⟨w.heap.size + 1, 0, none⟩) (World.putObj_heap_other (show w.heap.size + 1 ≠ dd by omega))).trans y7.cell⟩
    have HY : Hid (Y = (X.setCell ⟨w.heap.size, 0, none⟩ (.slice (some ⟨w.heap.size + 2, 0, none⟩) T C)).setCell ⟨w.heap.size + 1, 0, none⟩ (.int .i64 0)) := hY
    clear b1 b2 b3 hown hsp hgr hK hT hY y6 y7 yown hBX hS hp
    gi_wp2
    rw [← HY.out]
    refine ⟨by simp, .inl ⟨_, _, rfl, run_takeDeferred hYk, ?_⟩⟩
    have hl6 : (loadVar 32 ⟨w.heap.size, 0, none⟩).run Tryd.prog (Y.putObj dd (.deferred none)) = .ok (.slice (some ⟨w.heap.size + 2, 0, none⟩) T C) (Y.putObj dd (.deferred none)) := by simp [loadVar, isAgg, run_underlying Tryd.underlying32, Result.andThen, HP6.out.1, go_sem]
    have hl7 : (loadVar 25 ⟨w.heap.size + 1, 0, none⟩).run Tryd.prog (Y.putObj dd (.deferred none)) = .ok (.int .i64 0) (Y.putObj dd (.deferred none)) := by simp [loadVar, isAgg, run_underlying Tryd.underlying25, Result.andThen, HP6.out.2, go_sem]
    exact ⟨_, results_cell_cell rfl rfl rfl hl6 hl7, _, rfl, HOY.out, HBY.out, T, C, rfl⟩
  case stop =>
    rintro dd c D1 pre X _ _ _ h
    exact h.elim
theorem cut6_ok (e n : Int) (v : Value) (zs : List Nat) (w : World) (hid : okId e n = true) (ho : Octs w v zs) (hl1 : 1 ≤ zs.length) (hl2 : zs.length ≤ 65000) (ht : Steps w) :
    Calls Tryd.prog 25 #[.int .i64 e, .int .i64 n, v] w fun x w' => ∃ u, x = .returned (.tuple #[u, .int .i64 0]) ∧ Octs w' u (cutS e n zs) ∧ Below w.heap.size w w' :=
  (cut6_at e n v zs w hid ho hl1 hl2 ht).mono fun x w' ⟨u, h1, h2, h3, _⟩ => ⟨u, h1, h2, h3⟩
end Go.Proofs.YthhdkadjlddmkaaDoor

/- What the program's Join collects, held against the document's Join, in plain numbers. -/
namespace Go.Proofs.YthhdkadjlddmkaaDoor
open Go.RowKit
set_option linter.unusedVariables false

/-- The j-th sector is a part's, and no foot. -/
def goes6 (b : List Nat) (j : Nat) : Prop := 128 * j < b.length ∧ ∃ q, getP (secAt6 b j) = some q ∧ q.foot = false
/-- The octets of the first j of them. -/
def payN (b : List Nat) : Nat → List Nat
  | 0 => []
  | j + 1 => payN b j ++ dataP (getP (secAt6 b j))
theorem dataP_length (zs : List Nat) : (dataP (getP zs)).length ≤ 112 := by
  cases h : getP zs with
  | none => show ([] : List Nat).length ≤ 112; decide
  | some q => exact (okP_right.1 (getP_some h).1).data
theorem payN_length (b : List Nat) (j : Nat) : (payN b j).length ≤ 112 * j := by
  induction j with
  | zero => exact Nat.le_refl _
  | succ j ih => rw [payN, List.length_append]; have := dataP_length (secAt6 b j); omega
theorem dataP_small {zs : List Nat} (h : ∀ z ∈ zs, z < 256) : ∀ z ∈ dataP (getP zs), z < 256 := by
  cases hg : getP zs with
  | none => intro z hz; cases hz
  | some q =>
    intro z hz
    rw [(getP_some hg).2.2.1] at hz
    exact readP_small h z hz
theorem payN_small {b : List Nat} (h : ∀ z ∈ b, z < 256) (j : Nat) : ∀ z ∈ payN b j, z < 256 := by
  induction j with
  | zero => intro z hz; cases hz
  | succ j ih => exact app_small ih (dataP_small (small_part h _ _))
theorem joinL_some (b : List Nat) (e n : Int) : ∀ (f i : Nat) (p : List Nat) (k : Nat), joinL b e n f i (payN b i) = some (p, k) →
    ∃ j, i ≤ j ∧ k = j + 1 ∧ p = payN b j ∧ (∀ x, i ≤ x → x < j → goes6 b x) ∧ ¬ goes6 b j ∧ 0 < sectorsN p.length ∧ cutS e n p = b.take (128 * j + 128) ∧ fitP e n i (getP (secAt6 b i)) = true := by
  intro f
  induction f with
  | zero => intro i p k h; cases h
  | succ f ih =>
    intro i p k h
    have h' : (if 128 * i + 128 ≤ b.length then
      (if fitP e n i (getP (secAt6 b i)) = true then
        (if footP (getP (secAt6 b i)) = true then (if 0 < sectorsN (payN b i).length ∧ cutS e n (payN b i) = b.take (128 * i + 128) then some (payN b i, i + 1) else none)
         else joinL b e n f (i + 1) (payN b i ++ dataP (getP (secAt6 b i))))
       else none)
    else none) = some (p, k) := h
    split at h'
    · rename_i hb
      split at h'
      · rename_i hf
        split at h'
        · rename_i hft
          split at h'
          · rename_i hc
            simp only [Option.some.injEq, Prod.mk.injEq] at h'
            obtain ⟨rfl, rfl⟩ := h'
            refine ⟨i, Nat.le_refl _, rfl, rfl, fun x h1 h2 => by omega, ?_, hc.1, hc.2, hf⟩
            rintro ⟨-, q, hq, hqf⟩
            rw [hq] at hft
            have : q.foot = true := hft
            rw [hqf] at this
            cases this
          · cases h'
        · rename_i hft
          obtain ⟨j, h1, h2, h3, h4, h5, h6, h7, h8⟩ := ih (i + 1) p k h'
          refine ⟨j, by omega, h2, h3, fun x hx1 hx2 => ?_, h5, h6, h7, hf⟩
          by_cases hx : x = i
          · subst hx
            refine ⟨by omega, ?_⟩
            cases hg : getP (secAt6 b x) with
            | none => rw [hg] at hf; cases hf
            | some q =>
              rw [hg] at hft
              refine ⟨q, rfl, ?_⟩
              have : ¬ q.foot = true := hft
              simpa using this
          · exact h4 x (by omega) hx2
      · cases h'
    · cases h'
theorem fit_ok {e n : Int} {i : Nat} {zs : List Nat} (h : fitP e n i (getP zs) = true) : okId e n = true := by
  cases hg : getP zs with
  | none => rw [hg] at h; cases h
  | some q =>
    rw [hg] at h
    have h' : (decide (q.epoch = e) && (decide (q.number = n) && decide (q.index = (i : Nat)))) = true := h
    simp only [Bool.and_eq_true, decide_eq_true_eq] at h'
    have := okP_right.1 (getP_some hg).1
    rw [okId_right, ← h'.1, ← h'.2.1]
    exact ⟨this.epoch, this.number⟩
/-- The program's way to the document's answer. -/
theorem join_prog (b : List Nat) (e n : Int) (k : Nat) (hk : ∀ j, j < k → goes6 b j) (hn : ¬ goes6 b k) :
    joinS b e n = if okId e n = true ∧ (1 ≤ (payN b k).length ∧ (payN b k).length ≤ 65000) ∧ isPre (cutS e n (payN b k)) b = true then some (payN b k, partsN (payN b k).length + 1) else none := by
  split
  · rename_i h
    obtain ⟨h1, ⟨h2, h3⟩, h4⟩ := h
    have h5 : b.take (cutS e n (payN b k)).length = cutS e n (payN b k) := of_decide_eq_true h4
    have hb : b = cutS e n (payN b k) ++ b.drop (cutS e n (payN b k)).length := by
      have := (List.take_append_drop (cutS e n (payN b k)).length b).symm
      rwa [h5] at this
    generalize payN b k = p at *
    rw [hb]
    exact join_cut h1 p h2 h3 _
  · rename_i h
    cases hj : joinS b e n with
    | none => rfl
    | some x =>
      obtain ⟨p, m⟩ := x
      exfalso
      obtain ⟨j, -, h2, h3, h4, h5, h6, h7, h8⟩ := joinL_some b e n _ 0 p m hj
      have hjk : j = k := by
        rcases Nat.lt_trichotomy j k with hlt | rfl | hgt
        · exact absurd (hk j hlt) h5
        · rfl
        · exact absurd (h4 k (by omega) hgt) hn
      subst hjk
      subst h3
      refine h ⟨fit_ok h8, sectorsN_pos h6, ?_⟩
      have hl : (cutS e n (payN b j)).length ≤ 128 * j + 128 := by rw [h7, List.length_take]; omega
      refine decide_eq_true ?_
      rw [h7, List.length_take, ← List.take_take, List.take_length]
theorem joinK_prog (e n : Int) (p : List Nat) : ((cutS e n p).length : Int) / 128 = ((partsN p.length + 1 : Nat) : Int) := by
  rw [cutS_length]; omega
end Go.Proofs.YthhdkadjlddmkaaDoor

/- Contract of the iterator 'pieces': the octets of the parts at the beginning, by footprints. -/
namespace Go.Proofs.YthhdkadjlddmkaaDoor
open Go.RowKit Go.Shelf
set_option linter.unusedVariables false
attribute [local go_sem] Oper.semAt_some

theorem pieces_v (w : World) (v : Value) (a : Option Addr) (len cap : Nat) (hv : v = .slice a len cap) :
    Calls Tryd.prog 61 #[v] w fun x w' => x = .returned (.func (.func 67) #[] #[.pointer (some ⟨w.heap.size, 0, none⟩)]) ∧ w' = w.alloc (.cells #[v] 32) := by
  subst hv
  have hmf : ∀ (fn : Fn) (first cap : Array Value) (w : World), (Instr.makeFunc fn first cap).run Tryd.prog w = .ok (.func fn first cap) w := fun _ _ _ _ => rfl
  go_enter Tryd.func61, Tryd.ntmps61
  go_wp2
  go_ret
  exact ⟨rfl, rfl⟩

/-- What a round of pieces is handed. -/
def okPiece (zs : List Nat) (pre : List Value) (x : Value) (W : World) : Prop :=
  Octs W x (dataP (getP (secAt6 zs pre.length))) ∧ ∀ j, j ≤ pre.length → goes6 zs j
def endPiece (zs : List Nat) (xs : List Value) : Prop := (∀ j, j < xs.length → goes6 zs j) ∧ ¬ goes6 zs xs.length

/-- Between two rounds of the loop over the chunks: its own block is m. -/
def piecesI (m l : Nat) (zs : List Nat) (J : (Nat → Prop) → List Value → World → Prop) (D1 : Nat → Prop) (pre : List Nat) (X : World) : Prop :=
  ∃ (Dj : Nat → Prop) (qs : List Value), D1 = (fun k => Dj k ∨ k = m) ∧ ¬ Dj m ∧ J Dj qs X ∧ qs.length = pre.length ∧ (∀ j, j < pre.length → goes6 zs j) ∧ Boxed X m 75 (.func (.yield l) #[] #[])
def piecesIx (m : Nat) (zs : List Nat) (J Jx : (Nat → Prop) → List Value → World → Prop) (c : Code) (D1 : Nat → Prop) (pre : List Nat) (X : World) : Prop :=
  c = .ret ∧ ∃ (Dj : Nat → Prop) (qs : List Value), D1 = (fun k => Dj k ∨ k = m) ∧ ¬ Dj m ∧ m < X.heap.size ∧ ((J Dj qs X ∧ endPiece zs qs) ∨ Jx Dj qs X)

set_option maxRecDepth 20000 in
set_option maxHeartbeats 1000000 in
theorem pieces_seq (we : World) (B1 bb off L cap : Nat) (a : Option Addr) (ha : 0 < L → a = some ⟨bb, off, none⟩) (zs : List Nat) (ho : Octs we (.slice a L cap) zs) (hL : L ≤ 100000) (ht : Steps we) (W0 : World) (hb : Below we.heap.size we W0)
    (R : Nat → Prop) (hR1 : R B1) (hRb : ∀ k, k < we.heap.size → R k) (hRl : ∀ k, R k → k < W0.heap.size)
    (c1 : W0.cell? ⟨B1, 0, none⟩ = some (.slice a L cap)) :
    SeqSep Tryd.prog 67 #[.pointer (some ⟨B1, 0, none⟩)] (fun x => #[x]) (fun pre x W => okPiece zs pre x W ∧ Kept R W0 W) R (endPiece zs) (fun _ => True) W0 := by
  intro l J Jx D W hJ hJx hR hRD hY h0
  have hlen := ho.lenEq
  have HLEN : Hid (zs.length = L) := hlen
  have HO : Hid (Octs we (.slice a L cap) zs) := ho
  have HT : Hid (Steps we) := ht
  have HJ : Hid (Local J) := hJ
  have HJx : Hid (Local Jx) := hJx
  have HY : Hid (YieldSep Tryd.prog l (fun x => #[x]) (fun pre x W => okPiece zs pre x W ∧ Kept R W0 W) J Jx) := hY
  have HR : Hid (Kept R W0 W) := hR
  have HRD : Hid (∀ k, R k → ¬ D k) := hRD
  have HRb : Hid (∀ k, k < we.heap.size → R k) := hRb
  have HRl : Hid (∀ k, R k → k < W0.heap.size) := hRl
  have HB : Hid (Below we.heap.size we W0) := hb
  have HH0 : Hid (J D [] W) := h0
  have hcap := ho.capLe
  have g1 : W.cell? ⟨B1, 0, none⟩ = some (.slice a L cap) := (hR.cell (p := ⟨B1, 0, none⟩) hR1).trans c1
  have lt1 : B1 < W.heap.size := by obtain ⟨_, _, _, h⟩ := cells_of_cell g1; exact lt_of_heap h
  clear ho ht hJ hJx hY hR hRD hRb hRl hb c1 h0 hR1
  refine (callsIn_wide (n := 6)).1 (callsIn_of_wp_marks (F := Fence.wide) (n := 6) Tryd.func67 rfl trivial ?_ rfl)
  simp only [Tryd.ntmps67, List.size_toArray, List.length_cons, List.length_nil, Nat.reduceAdd, Nat.reduceSub, Array.replicate_succ, Array.replicate_zero, List.push_toArray, List.append_toArray, List.nil_append, List.cons_append]
  gi_wp2_with fail
  refine ⟨trivial, callsIn_wide.2 ((chunk_v _ _ a L cap rfl 128 (by decide)).mono ?_)⟩
  rintro x V00 ⟨rfl, rfl⟩
  gi_wp2_with fail
  obtain ⟨V0, hV0⟩ : ∃ V0, V0 = ((W.alloc (.cells #[.func (.yield l) #[] #[]] 75)).alloc (.cells #[.slice a L cap] 32)).alloc (.cells #[.int .i64 128] 3) := ⟨_, rfl⟩
  rw [← hV0]
  have hsz0 : V0.heap.size = W.heap.size + 3 := by rw [hV0]; simp
  have HB0 : Hid (Below W.heap.size W V0) := by
    unfold Hid; rw [hV0]
    exact (((Below.refl _ W).alloc (Nat.le_refl _) _).alloc (by simp) _).alloc (by simp <;> omega) _
  have at1 : ∀ (A : World) (o : Obj) (k : Nat), k < A.heap.size → (A.alloc o).heap[k]? = A.heap[k]? := fun A o k hk => Below.heap_alloc A o k hk
  have bY0 : Boxed V0 W.heap.size 75 (.func (.yield l) #[] #[]) := by
    unfold Boxed; rw [hV0, at1 _ _ _ (by simp <;> omega), at1 _ _ _ (by simp)]; exact World.alloc_heap_new W _
  have bS0 : Boxed V0 (W.heap.size + 1) 32 (.slice a L cap) := by
    unfold Boxed; rw [hV0, at1 _ _ _ (by simp)]
    have := World.alloc_heap_new (W.alloc (.cells #[.func (.yield l) #[] #[]] 75)) (.cells #[.slice a L cap] 32)
    rwa [World.size_alloc] at this
  have bN0 : Boxed V0 (W.heap.size + 2) 3 (.int .i64 ((128 : Nat) : Int)) := by
    unfold Boxed; rw [hV0]
    have := World.alloc_heap_new ((W.alloc (.cells #[.func (.yield l) #[] #[]] 75)).alloc (.cells #[.slice a L cap] 32)) (.cells #[.int .i64 128] 3)
    rwa [World.size_alloc, World.size_alloc] at this
  clear hV0 at1
  have hW0W : W0.heap.size ≤ W.heap.size := HR.out.size
  have hDlt : ∀ k, D k → k < W.heap.size := HJ.out.lt _ _ _ HH0.out
  have hRV : Kept R W0 V0 := HR.out.trans (Kept.ofBelow HB0.out fun k hk => by have := HRl.out k hk; omega)
  have HIL : Hid (Local (piecesI W.heap.size l zs J)) := by
    refine ⟨?_, ?_⟩
    · rintro D1 pre X ⟨Dj, qs, rfl, nY, hj, hq, hg, bY⟩ k (hk | rfl)
      · exact HJ.out.lt _ _ _ hj k hk
      · exact bY.lt
    · rintro D1 pre X X' ⟨Dj, qs, rfl, nY, hj, hq, hg, bY⟩ hk
      exact ⟨Dj, qs, rfl, nY, HJ.out.same _ _ _ _ hj (hk.mono fun _ h => .inl h), hq, hg, (hk.block _ (.inr rfl)).trans bY⟩
  have HXL : Hid (∀ c : Code, Local (piecesIx W.heap.size zs J Jx c)) := by
    refine fun c => ⟨?_, ?_⟩
    · rintro D1 pre X ⟨_, Dj, qs, rfl, nY, hs, hj⟩ k (hk | rfl)
      · rcases hj with hj | hj
        · exact HJ.out.lt _ _ _ hj.1 k hk
        · exact HJx.out.lt _ _ _ hj k hk
      · exact hs
    · rintro D1 pre X X' ⟨hc, Dj, qs, rfl, nY, hs, hj⟩ hk
      refine ⟨hc, Dj, qs, rfl, nY, Nat.lt_of_lt_of_le hs hk.size, ?_⟩
      rcases hj with hj | hj
      · exact .inl ⟨HJ.out.same _ _ _ _ hj.1 (hk.mono fun _ h => .inl h), hj.2⟩
      · exact .inr (HJx.out.same _ _ _ _ hj (hk.mono fun _ h => .inl h))
  have HKW : Hid (∀ X : World, Kept (fun k => R k ∨ k = W.heap.size + 1 ∨ k = W.heap.size + 2) V0 X → Kept R W0 X) := fun X h => hRV.trans (h.mono fun k hk => .inl hk)
  have HRn : Hid (∀ k, R k → k < W.heap.size) := fun k hk => by have := HRl.out k hk; omega
  have HR2 : Hid (∀ k, (R k ∨ k = W.heap.size + 1 ∨ k = W.heap.size + 2) → k < V0.heap.size) := fun k hk => by
    rcases hk with hk | rfl | rfl
    · have := HRn.out k hk; omega
    · omega
    · omega
  have HOX : Hid (∀ X : World, Kept R W0 X → Octs X (.slice a L cap) zs ∧ Steps X) := fun X h => by
    have hbx : Below we.heap.size we X := HB.out.trans (h.below HRb.out)
    exact ⟨HO.out.kept hbx, HT.out.below hbx⟩
  refine wpIn_rangeSep (n := 6) (gf := 63) (lb := #[.pointer (some ⟨W.heap.size + 1, 0, none⟩), .pointer (some ⟨W.heap.size + 2, 0, none⟩)]) rfl (enters_of Tryd.func63 (by kernel_rfl) rfl)
    (chunk_seq (W.heap.size + 1) (W.heap.size + 2) bb off 128 L cap a (by decide) (by decide) (by omega) hcap.1 ha V0 (fun k => R k ∨ k = W.heap.size + 1 ∨ k = W.heap.size + 2) (.inr (.inl rfl)) (.inr (.inr rfl)) HR2.out bS0.cell bN0.cell)
    (Kept.refl _ _) HR2.out (fun _ => rfl)
    (piecesI W.heap.size l zs J)
    (piecesIx W.heap.size zs J Jx)
    HIL.out HXL.out (fun k => D k ∨ k = W.heap.size)
    (fun k hk hd => by
      rcases hk with hk | hk | hk
      · have := HRn.out k hk
        rcases hd with hd | hd
        · exact HRD.out k hk hd
        · omega
      · rcases hd with hd | hd
        · have := hDlt k hd; omega
        · omega
      · rcases hd with hd | hd
        · have := hDlt k hd; omega
        · omega)
    ⟨D, [], rfl, fun h => by have := hDlt _ h; omega, HJ.out.same _ _ _ _ HH0.out (Kept.ofBelow HB0.out hDlt), rfl, fun j hj => by simp at hj, bY0⟩ ?round ?done ?stop
  case round =>
    rintro l2 D1 pre k X hl2 hnl hlo ⟨Dj, qs, rfl, nY, hj, hq, hg, bY⟩ ⟨rfl, hk2, hkR⟩
    unfold chunkV
    obtain rfl := ha (by omega)
    gi_wp2
    refine ⟨Below.refl _ _, fun V hVk hVs => ?_⟩
    have nl1 : ¬ Dj l2 := fun h => hnl (.inl h)
    have nlY : W.heap.size ≠ l2 := by omega
    have bYV : Boxed V W.heap.size 75 (.func (.yield l) #[] #[]) := (hVk.block _ nlY).trans bY
    obtain ⟨j, hj0⟩ : ∃ j, j = pre.length := ⟨_, rfl⟩
    rw [← hj0] at hk2 hq hg ⊢
    have kR : Kept R W0 V := (HKW.out X hkR).trans (hVk.mono fun k hk e => by have := HRn.out k hk; omega)
    have hJV : J Dj qs V := HJ.out.same _ _ _ _ hj (hVk.mono fun k hk e => nl1 (e ▸ hk))
    have hoc : Octs V (.slice (some ⟨bb, off + 128 * j, none⟩) (chunkLen 128 L j) (chunkLen 128 L j)) (secAt6 zs j) := octs_chunk (HOX.out V kR).1 128 j hk2
    obtain ⟨E, hE⟩ : ∃ E, E = chunkLen 128 L j := ⟨_, rfl⟩
    rw [← hE] at hoc ⊢
    have HOC : Hid (Octs V (.slice (some ⟨bb, off + 128 * j, none⟩) E E) (secAt6 zs j) ∧ Steps V) := ⟨hoc, (HOX.out V kR).2⟩
    have HVX : Hid (V.heap.size = X.heap.size) := hVs
    have HBV : Hid (Boxed V W.heap.size 75 (.func (.yield l) #[] #[])) := bYV
    have HJV : Hid (J Dj qs V) := hJV
    have HN : Hid (¬ Dj W.heap.size) := nY
    have HQ : Hid (qs.length = j) := hq
    have HG : Hid (∀ i, i < j → goes6 zs i) := hg
    have HK : Hid (128 * j < zs.length) := by unfold Hid; rw [HLEN.out]; exact hk2
    have HKR : Hid (Kept R W0 V) := kR
    have HPJ : Hid ((pre ++ [j]).length = j + 1) := by unfold Hid; rw [List.length_append, ← hj0]; rfl
    clear hE hoc hVs bYV hJV nY hq hg hk2 kR nl1 nlY hj hkR bY hj0 hVk
    gi_wp2_with fail
    refine ⟨trivial, CallsIn.inRound l2 (callsIn_wide.2 ((get6 _ _ V HOC.out.1 HOC.out.2).mono ?_))⟩
    rintro x W3 ⟨u, rfl, hu, hb3⟩
    have HNG : Hid (∀ o, getP (secAt6 zs j) = o → (∀ q, o = some q → q.foot = true) → endPiece zs qs) := fun o ho hf => by
      refine ⟨by rw [HQ.out]; exact HG.out, ?_⟩
      rw [HQ.out]
      rintro ⟨-, q, hq, hqf⟩
      have := hf q (ho ▸ hq)
      rw [hqf] at this
      cases this
    have HSTOP : Hid (∀ (vs : Array Value), endPiece zs qs → Kept (fun k => k < X.heap.size ∧ ¬ (Dj k ∨ k = W.heap.size)) V (W3.alloc (.cells vs 81)) ∧ ∃ D', piecesIx W.heap.size zs J Jx .ret D' (pre ++ [j]) (W3.alloc (.cells vs 81)) ∧ Grew (fun k => Dj k ∨ k = W.heap.size) D' X.heap.size) := fun vs he => by
      have hb4 : Below V.heap.size V (W3.alloc (.cells vs 81)) := hb3.alloc hb3.size _
      refine ⟨Kept.ofBelow hb4 fun k hk => by have := hk.1; have := HVX.out; omega, _, ⟨rfl, Dj, qs, rfl, HN.out, ?_, .inl ⟨?_, he⟩⟩, Grew.refl _ _⟩
      · have h1 := HBV.out.lt; have h2 := hb4.size; omega
      · exact HJ.out.same _ _ _ _ HJV.out (Kept.ofBelow hb4 fun k hk => HJ.out.lt _ _ _ HJV.out k hk)
    have HB3 : Hid (Below V.heap.size V W3) := hb3
    have hp := HNG.out
    unfold gotV pval
    cases hgp : getP (secAt6 zs j) with
    | none =>
      have HE : Hid (endPiece zs qs) := HNG.out none hgp (fun q hq => by cases hq)
      rw [hgp] at hu
      obtain ⟨ua, uc, hush⟩ := hu.shape
      have hush' : u = .slice ua 0 uc := hush
      subst hush'
      clear hu hush hb3 hgp hp HNG
      dsimp only [Option.getD_none, Part.zero, Option.isSome_none]
      gi_wp2
      refine ⟨(fun f hf => (by cases hf)), ?_⟩
      gi_wp2
      exact HSTOP.out _ HE.out
    | some q =>
      obtain ⟨f, qe, qn, qi, d⟩ := q
      rw [hgp] at hu
      obtain ⟨ua, uc, hush⟩ := hu.shape
      have hush' : u = .slice ua d.length uc := hush
      subst hush'
      have hu' : Octs W3 (.slice ua d.length uc) d := hu
      dsimp only [Option.getD_some, Option.isSome_some]
      cases f with
      | true =>
        have HE : Hid (endPiece zs qs) := HNG.out _ hgp (fun q hq => by cases hq; rfl)
        clear hu hu' hush hb3 hgp hp HNG
        gi_wp2
        refine ⟨(fun f hf => (by cases hf)), ?_⟩
        gi_wp2
        exact HSTOP.out _ HE.out
      | false =>
        obtain ⟨V4, hV4⟩ : ∃ V4, V4 = W3.alloc (.cells #[.bool false, .int .i64 qe, .int .i64 qn, .int .i64 qi, .slice ua d.length uc] 81) := ⟨_, rfl⟩
        have hb4 : Below V.heap.size V V4 := by rw [hV4]; exact hb3.alloc hb3.size _
        have bY4 : Boxed V4 W.heap.size 75 (.func (.yield l) #[] #[]) := (hb4.block _ HBV.out.lt).trans HBV.out
        have hJ4 : J Dj qs V4 := HJ.out.same _ _ _ _ HJV.out (Kept.ofBelow hb4 fun k hk => HJ.out.lt _ _ _ HJV.out k hk)
        have hR4 : Kept R W0 V4 := HKR.out.trans (Kept.ofBelow hb4 fun k hk => by have h1 := HRl.out k hk; have h2 := HKR.out.size; omega)
        have hgo : ∀ i, i < j + 1 → goes6 zs i := fun i hi => by
          by_cases h : i = j
          · subst h; exact ⟨HK.out, _, hgp, rfl⟩
          · exact HG.out i (by omega)
        have ho4 : Octs V4 (.slice ua d.length uc) d := by rw [hV4]; exact hu'.alloc _
        obtain ⟨fn, tmps, assign, body, hy, hRd⟩ := HY.out Dj qs (.slice ua d.length uc) V4 hJ4 ⟨⟨by rw [HQ.out, hgp]; exact ho4, fun i hi => hgo i (by have := HQ.out; omega)⟩, hR4⟩ 3
        have HRd : Hid _ := hRd
        have HGO : Hid (∀ i, i < j + 1 → goes6 zs i) := hgo
        have HV4 : Hid (V4 = W3.alloc (.cells #[.bool false, .int .i64 qe, .int .i64 qn, .int .i64 qi, .slice ua d.length uc] 81)) := hV4
        have HB4 : Hid (Below V.heap.size V V4) := hb4
        have HY4 : Hid (Boxed V4 W.heap.size 75 (.func (.yield l) #[] #[])) := bY4
        have cY : W3.cell? ⟨W.heap.size, 0, none⟩ = some (.func (.yield l) #[] #[]) := ((hb3.cell (p := ⟨W.heap.size, 0, none⟩) HBV.out.lt).trans HBV.out.cell)
        have cY4 : (W3.alloc (.cells #[.bool false, .int .i64 qe, .int .i64 qn, .int .i64 qi, .slice ua d.length uc] 81)).cell? ⟨W.heap.size, 0, none⟩ = some (.func (.yield l) #[] #[]) := by rw [← hV4]; exact bY4.cell
        rw [hV4] at hy
        have hd0 := hu'.len
        clear hRd hgo hV4 hb4 bY4 hJ4 hR4 ho4 hu hu' hush hb3 hgp hp HNG HSTOP
        gi_wp2
        rw [← HV4.out]
        refine RoundIn.mono (RoundIn.into HRd.out) ?_
        rintro x W5 ⟨hs5, (⟨rfl, D2, hJ5, hg5⟩ | ⟨rfl, D2, hJ5, hg5⟩)⟩
        · have hm4 : W.heap.size < V4.heap.size := HY4.out.lt
          have bY5 : Boxed W5 W.heap.size 75 (.func (.yield l) #[] #[]) := (hs5.block _ ⟨hm4, HN.out⟩).trans HY4.out
          have nY2 : ¬ D2 W.heap.size := fun h => by
            rcases hg5 _ h with h | h
            · exact HN.out h
            · omega
          have HFIN : Hid (Kept (fun k => k < X.heap.size ∧ ¬ (Dj k ∨ k = W.heap.size)) V W5 ∧ ∃ D', piecesI W.heap.size l zs J D' (pre ++ [j]) W5 ∧ Grew (fun k => Dj k ∨ k = W.heap.size) D' X.heap.size) := by
            refine ⟨(Kept.ofBelow HB4.out fun k hk => by have := hk.1; have := HVX.out; omega).trans (hs5.mono fun k hk => ⟨by have h1 := hk.1; have h2 := HVX.out; have h3 := HB4.out.size; omega, fun h => hk.2 (.inl h)⟩), fun k => D2 k ∨ k = W.heap.size, ⟨D2, _, rfl, nY2, hJ5, ?_, ?_, bY5⟩, fun k hk => ?_⟩
            · rw [List.length_append, HPJ.out, HQ.out]; rfl
            · rw [HPJ.out]; exact HGO.out
            · rcases hk with hk | hk
              · rcases hg5 k hk with h | h
                · exact .inl (.inl h)
                · right; have h2 := HVX.out; have h3 := HB4.out.size; omega
              · exact .inl (.inr hk)
          clear hs5 hJ5 hg5 bY5 nY2 hm4
          gi_wp2
          exact HFIN.out
        · have hm4 : W.heap.size < V4.heap.size := HY4.out.lt
          have nY2 : ¬ D2 W.heap.size := fun h => by
            rcases hg5 _ h with h | h
            · exact HN.out h
            · omega
          have HFIN : Hid (Kept (fun k => k < X.heap.size ∧ ¬ (Dj k ∨ k = W.heap.size)) V W5 ∧ ∃ D', piecesIx W.heap.size zs J Jx .ret D' (pre ++ [j]) W5 ∧ Grew (fun k => Dj k ∨ k = W.heap.size) D' X.heap.size) := by
            refine ⟨(Kept.ofBelow HB4.out fun k hk => by have := hk.1; have := HVX.out; omega).trans (hs5.mono fun k hk => ⟨by have h1 := hk.1; have h2 := HVX.out; have h3 := HB4.out.size; omega, fun h => hk.2 (.inl h)⟩), fun k => D2 k ∨ k = W.heap.size, ⟨rfl, D2, _, rfl, nY2, by have := hs5.size; omega, .inr hJ5⟩, fun k hk => ?_⟩
            rcases hk with hk | hk
            · rcases hg5 k hk with h | h
              · exact .inl (.inl h)
              · right; have h2 := HVX.out; have h3 := HB4.out.size; omega
            · exact .inl (.inr hk)
          clear hs5 hJ5 hg5 nY2 hm4
          gi_wp2
          exact HFIN.out
  case done =>
    rintro dd D1 xs X hdd hnd hS ⟨Dj, qs, rfl, nY, hj, hq, hg, bY⟩ hgr hsp hK
    have hdX : dd < X.heap.size := lt_of_heap hK
    have hXW : W.heap.size < X.heap.size := bY.lt
    have HE : Hid (Spared D W (X.putObj dd (.deferred none)) ∧ endPiece zs qs ∧ J Dj qs (X.putObj dd (.deferred none)) ∧ Grew D Dj W.heap.size) := by
      refine ⟨?_, ⟨by rw [hq]; exact hg, ?_⟩, ?_, fun k hk => ?_⟩
      · have k1 : Spared D W X := (Kept.ofBelow HB0.out fun k hk => hk.1).trans (hsp.mono fun k hk => ⟨by have := hk.1; omega, fun hd => by
          have := hk.1
          rcases hd with hd | hd
          · exact hk.2 hd
          · omega⟩)
        exact Kept.trans k1 (Kept.putObj _ _ _ _ (fun h => by have := h.1; omega) (fun k hk => by have := hk.1; omega))
      · rw [hq, hS, List.length_range]
        rintro ⟨h1, -⟩
        rw [HLEN.out, chunks_lt (by decide)] at h1
        omega
      · exact HJ.out.same _ _ _ _ hj (Kept.putObj _ _ _ _ (fun h => hnd (.inl h)) (HJ.out.lt _ _ _ hj))
      · rcases hgr k (.inl hk) with (h | h) | h
        · exact .inl h
        · exact absurd (h ▸ hk) nY
        · right; omega
    clear hj hgr hsp hnd hS hq hg bY nY
    gi_wp2
    refine ⟨by simp, .inl ⟨_, _, rfl, run_takeDeferred hK, ?_⟩⟩
    exact ⟨_, results_none rfl _ _ _, ⟨_, rfl⟩, HE.out.1, .inl ⟨qs, Dj, HE.out.2.1, HE.out.2.2.1, HE.out.2.2.2⟩⟩
  case stop =>
    rintro dd c D1 pre X hdd hnd _ ⟨rfl, Dj, qs, rfl, nY, hs, hj⟩ hgr hsp hK
    have hdX : dd < X.heap.size := lt_of_heap hK
    have HE : Hid (Spared D W (X.putObj dd (.deferred none)) ∧ ((∃ xs D', endPiece zs xs ∧ J D' xs (X.putObj dd (.deferred none)) ∧ Grew D D' W.heap.size) ∨ (∃ pre D', True ∧ Jx D' pre (X.putObj dd (.deferred none)) ∧ Grew D D' W.heap.size))) := by
      have hgr2 : Grew D Dj W.heap.size := fun k hk => by
        rcases hgr k (.inl hk) with (h | h) | h
        · exact .inl h
        · exact absurd (h ▸ hk) nY
        · right; omega
      refine ⟨?_, ?_⟩
      · have k1 : Spared D W X := (Kept.ofBelow HB0.out fun k hk => hk.1).trans (hsp.mono fun k hk => ⟨by have := hk.1; omega, fun hd => by
          have := hk.1
          rcases hd with hd | hd
          · exact hk.2 hd
          · omega⟩)
        exact Kept.trans k1 (Kept.putObj _ _ _ _ (fun h => by have := h.1; omega) (fun k hk => by have := hk.1; omega))
      · rcases hj with hj | hj
        · exact .inl ⟨qs, Dj, hj.2, HJ.out.same _ _ _ _ hj.1 (Kept.putObj _ _ _ _ (fun h => hnd (.inl h)) (HJ.out.lt _ _ _ hj.1)), hgr2⟩
        · exact .inr ⟨qs, Dj, trivial, HJx.out.same _ _ _ _ hj (Kept.putObj _ _ _ _ (fun h => hnd (.inl h)) (HJx.out.lt _ _ _ hj)), hgr2⟩
    clear hj hgr hsp hnd nY
    gi_wp2
    refine ⟨by simp, .inl ⟨_, _, rfl, run_takeDeferred hK, ?_⟩⟩
    exact ⟨_, results_none rfl _ _ _, ⟨_, rfl⟩, HE.out.1, HE.out.2⟩
end Go.Proofs.YthhdkadjlddmkaaDoor

/- Contract of the program's 'Cut' where it refuses. -/
namespace Go.Proofs.YthhdkadjlddmkaaDoor
open Go.RowKit Go.Shelf
set_option linter.unusedVariables false
attribute [local go_sem] Oper.semAt_some

set_option maxHeartbeats 400000 in
theorem cut6_none (e n : Int) (v : Value) (zs : List Nat) (w : World) (ho : Octs w v zs) (hl : zs.length = 0 ∨ 65000 < zs.length) :
    Calls Tryd.prog 25 #[.int .i64 e, .int .i64 n, v] w fun x w' => x = .returned (.tuple #[.slice none 0 0, .int .i64 2]) ∧ Below w.heap.size w w' := by
  have hlen := ho.len
  obtain ⟨a, cap, rfl⟩ := ho.shape
  obtain ⟨L, hL⟩ : ∃ L, L = zs.length := ⟨_, rfl⟩
  rw [← hL] at hl hlen ⊢
  have HSE : Hid ((if 1 ≤ (L : Int) ∧ (L : Int) ≤ 65000 then ((L : Int) + 111) / 112 + 1 else 0) = 0) := by
    unfold Hid; rw [if_neg (by omega)]
  clear ho hL
  refine (callsIn_wide (n := 6)).1 (callsIn_of_wp_marks (F := Fence.wide) (n := 6) Tryd.func25 rfl trivial ?_ rfl)
  simp only [Tryd.ntmps25, List.size_toArray, List.length_cons, List.length_nil, Nat.reduceAdd, Nat.reduceSub, Array.replicate_succ, Array.replicate_zero, List.push_toArray, List.append_toArray, List.nil_append, List.cons_append]
  gi_wp2_with fail
  refine ⟨trivial, callsIn_wide.2 ((sectors6 L _ (by omega) (by omega)).mono ?_)⟩
  rintro x w1 ⟨rfl, rfl⟩
  rw [HSE.out]
  gi_wp2
  refine ⟨_, results_cell_cell rfl rfl rfl (v := .slice none 0 0) (x := .int .i64 2) ?_ ?_, rfl, ((Below.refl _ w).alloc (Nat.le_refl _) _).alloc (by simp) _⟩
  · have h6 : ((w.alloc (.cells #[.slice none 0 0] 32)).alloc (.cells #[.int .i64 2] 25)).cell? ⟨w.heap.size, 0, none⟩ = some (.slice none 0 0) := ((Boxed.new w 32 (.slice none 0 0)).alloc _).cell
    simp [loadVar, isAgg, run_underlying Tryd.underlying32, Result.andThen, h6, go_sem]
  · have h7 : ((w.alloc (.cells #[.slice none 0 0] 32)).alloc (.cells #[.int .i64 2] 25)).cell? ⟨w.heap.size + 1, 0, none⟩ = some (.int .i64 2) := by
      have := (Boxed.new (w.alloc (.cells #[.slice none 0 0] 32)) 25 (.int .i64 2)).cell
      rwa [World.size_alloc] at this
    simp [loadVar, isAgg, run_underlying Tryd.underlying25, Result.andThen, h7, go_sem]

/-- Ahead of the first round. -/
def cutNI (m : Nat) (D1 : Nat → Prop) (pre : List (Part × Value)) (X : World) : Prop :=
  D1 = (fun k => k = m ∨ k = m + 1) ∧ pre = [] ∧ Boxed X m 32 (.slice none 0 0) ∧ Boxed X (m + 1) 25 (.int .i64 0)
def cutNX (m : Nat) (c : Code) (D1 : Nat → Prop) (pre : List (Part × Value)) (X : World) : Prop :=
  c = .ret ∧ D1 = (fun k => k = m ∨ k = m + 1) ∧ Boxed X m 32 (.slice none 0 0) ∧ Boxed X (m + 1) 25 (.int .i64 2)
theorem cutNI_local (m : Nat) : Local (cutNI m) := by
  refine ⟨?_, ?_⟩
  · rintro D1 pre X ⟨rfl, hp, b1, b2⟩ k hk
    have := b1.lt
    have := b2.lt
    omega
  · rintro D1 pre X X' ⟨rfl, hp, b1, b2⟩ hk
    exact ⟨rfl, hp, (hk.block _ (.inl rfl)).trans b1, (hk.block _ (.inr rfl)).trans b2⟩
theorem cutNX_local (m : Nat) (c : Code) : Local (cutNX m c) := by
  refine ⟨?_, ?_⟩
  · rintro D1 pre X ⟨hc, rfl, b1, b2⟩ k hk
    have := b1.lt
    have := b2.lt
    omega
  · rintro D1 pre X X' ⟨hc, rfl, b1, b2⟩ hk
    exact ⟨hc, rfl, (hk.block _ (.inl rfl)).trans b1, (hk.block _ (.inr rfl)).trans b2⟩
theorem partOf_no {e n : Int} (h : okId e n = false) (zs : List Nat) : okP (partOf e n zs 0) = false := by
  cases hc : okP (partOf e n zs 0) with
  | false => rfl
  | true =>
    have := okP_right.1 hc
    have h2 : okId e n = true := okId_right.2 ⟨this.epoch, this.number⟩
    rw [h] at h2
    cases h2

set_option maxRecDepth 20000 in
set_option maxHeartbeats 1000000 in
theorem cut6_refused (e n : Int) (v : Value) (zs : List Nat) (w : World) (hid : okId e n = false) (ho : Octs w v zs) (hl1 : 1 ≤ zs.length) (hl2 : zs.length ≤ 65000) (ht : Steps w) :
    Calls Tryd.prog 25 #[.int .i64 e, .int .i64 n, v] w fun x w' => x = .returned (.tuple #[.slice none 0 0, .int .i64 2]) ∧ Below w.heap.size w w' := by
  obtain ⟨a, cap, rfl⟩ := ho.shape
  obtain ⟨bb, off, rfl, hbb, -⟩ := ho.addr hl1
  obtain ⟨L, hL⟩ : ∃ L, L = zs.length := ⟨_, rfl⟩
  rw [← hL] at ho hl1 hl2 ⊢
  have HO : Hid (Octs w (.slice (some ⟨bb, off, none⟩) L cap) zs) := ho
  have HT : Hid (Steps w) := ht
  have HID : Hid (okId e n = false) := hid
  have hcap := ho.capLe
  obtain ⟨C, hC⟩ : ∃ C, C = 128 * (partsN L + 1) := ⟨_, rfl⟩
  obtain ⟨S, hS⟩ : ∃ S, S = partsN L + 1 := ⟨_, rfl⟩
  have hpn : partsN L ≤ 600 := by unfold partsN; omega
  have HSE : Hid ((if 1 ≤ (L : Int) ∧ (L : Int) ≤ 65000 then ((L : Int) + 111) / 112 + 1 else 0) = (S : Nat)) := by
    unfold Hid; rw [if_pos (by omega), hS]; unfold partsN; omega
  have hS0 : ¬ (S : Int) = 0 := by omega
  have hSC : (S : Int) * 128 = (C : Nat) := by omega
  have hwC : IntKind.i64.wrap (C : Nat) = (C : Nat) := by rw [IntKind.wrap_i64]; omega
  have hmk := Tryd.make6 C (by omega)
  have HC : Hid (C ≤ 100000) := by unfold Hid; omega
  have HLE : Hid (L = zs.length) := hL
  have HCC : Hid (C = 128 * (partsN zs.length + 1)) := by unfold Hid; rw [hC, hL]
  have HLL : Hid ((1 : Nat) ≤ L ∧ L ≤ 65000) := ⟨hl1, hl2⟩
  clear ho ht hid hC hS hL hpn
  refine (callsIn_wide (n := 6)).1 (callsIn_of_wp_marks (F := Fence.wide) (n := 6) Tryd.func25 rfl trivial ?_ rfl)
  simp only [Tryd.ntmps25, List.size_toArray, List.length_cons, List.length_nil, Nat.reduceAdd, Nat.reduceSub, Array.replicate_succ, Array.replicate_zero, List.push_toArray, List.append_toArray, List.nil_append, List.cons_append]
  gi_wp2_with fail
  refine ⟨trivial, callsIn_wide.2 ((sectors6 L _ (by omega) (by omega)).mono ?_)⟩
  rintro x w1 ⟨rfl, rfl⟩
  rw [HSE.out]
  gi_wp2_with fail
  obtain ⟨V3, hV3⟩ : ∃ V3, V3 = (((w.alloc (.cells #[.slice none 0 0] 32)).alloc (.cells #[.int .i64 0] 25)).alloc (.cells (u8s (zl C)).toArray 5)).alloc (.cells #[.slice (some ⟨w.heap.size + 2, 0, none⟩) 0 C] 32) := ⟨_, rfl⟩
  have at1 : ∀ (A : World) (o : Obj) (k : Nat), k < A.heap.size → (A.alloc o).heap[k]? = A.heap[k]? := fun A o k hk => Below.heap_alloc A o k hk
  have hsz3 : V3.heap.size = w.heap.size + 4 := by rw [hV3]; simp
  have hB3 : Below w.heap.size w V3 := by
    rw [hV3]
    exact ((((Below.refl _ w).alloc (Nat.le_refl _) _).alloc (by simp) _).alloc (by simp <;> omega) _).alloc (by simp <;> omega) _
  have x6 : Boxed V3 w.heap.size 32 (.slice none 0 0) := by
    unfold Boxed; rw [hV3, at1 _ _ _ (by simp <;> omega), at1 _ _ _ (by simp <;> omega), at1 _ _ _ (by simp)]; exact World.alloc_heap_new w _
  have x7 : Boxed V3 (w.heap.size + 1) 25 (.int .i64 0) := by
    unfold Boxed; rw [hV3, at1 _ _ _ (by simp <;> omega), at1 _ _ _ (by simp)]
    have := World.alloc_heap_new (w.alloc (.cells #[.slice none 0 0] 32)) (.cells #[.int .i64 0] 25)
    rwa [World.size_alloc] at this
  have x8 : V3.heap[w.heap.size + 2]? = some (.cells (u8s (zl C)).toArray 5 (0, 0)) := by
    rw [hV3, at1 _ _ _ (by simp)]
    have := World.alloc_heap_new ((w.alloc (.cells #[.slice none 0 0] 32)).alloc (.cells #[.int .i64 0] 25)) (.cells (u8s (zl C)).toArray 5)
    rwa [World.size_alloc, World.size_alloc] at this
  have x9 : Boxed V3 (w.heap.size + 3) 32 (.slice (some ⟨w.heap.size + 2, 0, none⟩) 0 C) := by
    unfold Boxed; rw [hV3]
    have := World.alloc_heap_new (((w.alloc (.cells #[.slice none 0 0] 32)).alloc (.cells #[.int .i64 0] 25)).alloc (.cells (u8s (zl C)).toArray 5)) (.cells #[.slice (some ⟨w.heap.size + 2, 0, none⟩) 0 C] 32)
    rwa [World.size_alloc, World.size_alloc, World.size_alloc] at this
  have hV3' := hV3
  rw [show w.heap.size + 2 = w.heap.size + 1 + 1 from rfl] at hV3'
  rw [← hV3']
  clear hV3 hV3' at1
  have HSZ3 : Hid (V3.heap.size = w.heap.size + 4) := hsz3
  clear hsz3
  refine ⟨trivial, callsIn_wide.2 ((parts_v V3 e n _ (some ⟨bb, off, none⟩) L cap rfl).mono ?_)⟩
  rintro x V00 ⟨rfl, rfl⟩
  gi_wp2_with fail
  obtain ⟨V0, hV0⟩ : ∃ V0, V0 = ((V3.alloc (.cells #[.int .i64 e] 3)).alloc (.cells #[.int .i64 n] 3)).alloc (.cells #[.slice (some ⟨bb, off, none⟩) L cap] 32) := ⟨_, rfl⟩
  rw [← hV0]
  have hsz3 := HSZ3.out
  have hsz0 : V0.heap.size = w.heap.size + 7 := by rw [hV0]; simp; omega
  have hB0 : Below V3.heap.size V3 V0 := by rw [hV0]; exact (((Below.refl _ V3).alloc (Nat.le_refl _) _).alloc (by simp) _).alloc (by simp <;> omega) _
  have y1 : Boxed V0 V3.heap.size 3 (.int .i64 e) := by rw [hV0]; exact ((Boxed.new V3 _ _).alloc _).alloc _
  have y2 : Boxed V0 (V3.heap.size + 1) 3 (.int .i64 n) := by
    rw [hV0]
    have := (Boxed.new (V3.alloc (.cells #[.int .i64 e] 3)) 3 (.int .i64 n)).alloc (.cells #[.slice (some ⟨bb, off, none⟩) L cap] 32)
    rwa [World.size_alloc] at this
  have y3 : Boxed V0 (V3.heap.size + 2) 32 (.slice (some ⟨bb, off, none⟩) L cap) := by
    rw [hV0]
    have := Boxed.new ((V3.alloc (.cells #[.int .i64 e] 3)).alloc (.cells #[.int .i64 n] 3)) 32 (.slice (some ⟨bb, off, none⟩) L cap)
    rwa [World.size_alloc, World.size_alloc] at this
  clear hV0
  have hBw : Below w.heap.size w V0 := hB3.trans (hB0.mono (by omega))
  obtain ⟨m, hm⟩ : ∃ m, m = w.heap.size := ⟨_, rfl⟩
  have I0 : cutNI m (fun k => k = m ∨ k = m + 1) [] V0 := by
    refine ⟨rfl, rfl, ?_, ?_⟩
    · rw [hm]; exact (hB0.block _ (by omega)).trans x6
    · rw [hm]; exact (hB0.block _ (by omega)).trans x7
  refine wpIn_rangeSep (n := 6) (gf := 47) (lb := #[.pointer (some ⟨V3.heap.size, 0, none⟩), .pointer (some ⟨V3.heap.size + 1, 0, none⟩), .pointer (some ⟨V3.heap.size + 2, 0, none⟩)]) rfl (enters_of Tryd.func47 (by kernel_rfl) rfl)
    (parts_seq w V3.heap.size (V3.heap.size + 1) (V3.heap.size + 2) bb off L cap e n zs HO.out hl1 hl2 HT.out V0 hBw (fun k => k < m ∨ m + 4 ≤ k ∧ k < m + 7) (.inr (by omega)) (.inr (by omega)) (.inr (by omega)) (fun k hk => .inl (by omega)) (fun k hk => by omega) y1.cell y2.cell y3.cell)
    (Kept.refl _ _) (fun k hk => by omega) (fun _ => rfl) (cutNI m) (cutNX m) (cutNI_local _) (cutNX_local _) (fun k => k = m ∨ k = m + 1) (fun k hk hd => by omega) I0 ?round ?done ?stop
  case round =>
    rintro l D1 pre ⟨p, y⟩ X hlw hnl hlo ⟨rfl, rfl, b1, b2⟩ ⟨⟨hoc, hpart⟩, hkR⟩
    dsimp only at hoc hpart
    obtain ⟨pa, pc, rfl⟩ := hoc.shape
    have hok : okP p = false := by
      rcases hpart with ⟨h, rfl⟩ | ⟨h, rfl⟩
      · exact partOf_no HID.out zs
      · exfalso
        have h' : 0 = partsN zs.length := h
        rw [← HLE.out] at h'
        unfold partsN at h'
        omega
    gi_wp2
    refine ⟨(Below.refl _ _).alloc (Nat.le_refl _) _, fun V hVk hVs => ?_⟩
    subst hm
    have hX2 : w.heap.size + 1 < X.heap.size := b2.lt
    have hWa : Below X.heap.size X (X.alloc (.cells #[.bool p.foot, .int .i64 p.epoch, .int .i64 p.number, .int .i64 p.index, .slice pa p.data.length pc] 81)) := (Below.refl _ _).alloc (Nat.le_refl _) _
    have hlX : l < X.heap.size := by obtain ⟨r, h⟩ := hlo; exact lt_of_heap h
    have hXV : Kept (fun k => k < X.heap.size ∧ k ≠ l) X V := (Kept.ofBelow hWa fun k hk => hk.1).trans (hVk.mono fun k hk => hk.2)
    have bPV : PA V X.heap.size p.foot p.epoch p.number p.index (.slice pa p.data.length pc) := (hVk.block _ (show X.heap.size ≠ l by omega)).trans (heap_alloc_new X _)
    have hocV : Octs V (.slice pa p.data.length pc) p.data := hoc.only (loop_noOct hlo) hXV
    have v6 : Boxed V w.heap.size 32 (.slice none 0 0) := (hXV.block _ ⟨by omega, by omega⟩).trans b1
    have v7 : Boxed V (w.heap.size + 1) 25 (.int .i64 0) := (hXV.block _ ⟨by omega, by omega⟩).trans b2
    have hVs' : X.heap.size < V.heap.size := bPV.lt
    obtain ⟨q0, q1, q2, q3, q4⟩ := bPV.cells
    have H6 : Hid (Boxed V w.heap.size 32 (.slice none 0 0) ∧ Boxed V (w.heap.size + 1) 25 (.int .i64 0)) := ⟨v6, v7⟩
    have HOK : Hid (okP p = false) := hok
    have HXs : Hid (w.heap.size + 1 < X.heap.size ∧ X.heap.size < V.heap.size) := ⟨hX2, hVs'⟩
    have HOC : Hid (Octs V (.slice pa p.data.length pc) p.data) := hocV
    clear v6 v7 hok hocV hoc hpart hkR b1 b2 hVk hXV hWa hVs hVs' bPV
    gi_wp2_with fail
    refine ⟨trivial, CallsIn.inRound l (callsIn_wide.2 ((put6_no p _ V HOK.out HOC.out).mono ?_))⟩
    rintro x W4 ⟨rfl, hb4⟩
    have u6 : Boxed W4 w.heap.size 32 (.slice none 0 0) := (hb4.block _ H6.out.1.lt).trans H6.out.1
    have u7 : Boxed W4 (w.heap.size + 1) 25 (.int .i64 0) := (hb4.block _ H6.out.2.lt).trans H6.out.2
    obtain ⟨W6, hW6⟩ : ∃ W6, W6 = (W4.setCell ⟨w.heap.size, 0, none⟩ (.slice none 0 0)).setCell ⟨w.heap.size + 1, 0, none⟩ (.int .i64 2) := ⟨_, rfl⟩
    have t6 : Boxed W6 w.heap.size 32 (.slice none 0 0) := by rw [hW6]; exact (u6.set _).other (by omega) _
    have t7 : Boxed W6 (w.heap.size + 1) 25 (.int .i64 2) := by rw [hW6]; exact (u7.other (by omega) _).set _
    have k6 : Kept (fun k => k < X.heap.size ∧ ¬ (k = w.heap.size ∨ k = w.heap.size + 1)) V W6 := by
      rw [hW6]
      have k1 : Kept (fun k => k < X.heap.size ∧ ¬ (k = w.heap.size ∨ k = w.heap.size + 1)) V W4 := Kept.ofBelow hb4 fun k hk => by have := hk.1; have := HXs.out.2; omega
      exact (k1.setCell (p := ⟨w.heap.size, 0, none⟩) (fun hk => hk.2 (.inl rfl)) _).setCell (p := ⟨w.heap.size + 1, 0, none⟩) (fun hk => hk.2 (.inr rfl)) _
    have HFIN : Hid (Kept (fun k => k < X.heap.size ∧ ¬ (k = w.heap.size ∨ k = w.heap.size + 1)) V W6 ∧ ∃ D', cutNX w.heap.size .ret D' ([] ++ [(p, .slice pa p.data.length pc)]) W6 ∧ Grew (fun k => k = w.heap.size ∨ k = w.heap.size + 1) D' X.heap.size) :=
      ⟨k6, _, ⟨rfl, rfl, t6, t7⟩, Grew.refl _ _⟩
    have HW6 : Hid (W6 = (W4.setCell ⟨w.heap.size, 0, none⟩ (.slice none 0 0)).setCell ⟨w.heap.size + 1, 0, none⟩ (.int .i64 2)) := hW6
    have c6 := u6.cell
    have f6 := u6.frozen
    have c7 := u7.cell
    have f7 := u7.frozen
    clear hb4 u6 u7 hW6 t6 t7 k6 q0 q1 q2 q3 q4
    gi_wp2
    rw [← HW6.out]
    exact HFIN.out
  case done =>
    rintro dd D1 xs X hdd hnd hS ⟨rfl, rfl, b1, b2⟩
    cases hS
  case stop =>
    rintro dd c D1 pre X hdd hnd _ ⟨rfl, rfl, b1, b2⟩ hgr hsp hK
    subst hm
    have hX3 : w.heap.size + 1 < X.heap.size := b2.lt
    have hddX : dd < X.heap.size := lt_of_heap hK
    have hBX : Below w.heap.size w X := hBw.trans (hsp.below fun k hk => ⟨by omega, by omega⟩)
    have HBY : Hid (Below w.heap.size w (X.putObj dd (.deferred none))) := hBX.grown (grownBy_putObj' X dd _) hBX.size (fun k e => by cases e; omega)
    have HP6 : Hid ((X.putObj dd (.deferred none)).cell? ⟨w.heap.size, 0, none⟩ = some (.slice none 0 0) ∧ (X.putObj dd (.deferred none)).cell? ⟨w.heap.size + 1, 0, none⟩ = some (.int .i64 2)) :=
      ⟨(World.cell?_of_block (w := X) (a := ⟨w.heap.size, 0, none⟩) (World.putObj_heap_other (show w.heap.size ≠ dd by omega))).trans b1.cell, (World.cell?_of_block (w := X) (a := ⟨w.heap.size + 1, 0, none⟩) (World.putObj_heap_other (show w.heap.size + 1 ≠ dd by omega))).trans b2.cell⟩
    clear b1 b2 hsp hgr hBX
    gi_wp2
    refine ⟨by simp, .inl ⟨_, _, rfl, run_takeDeferred hK, ?_⟩⟩
    have hl6 : (loadVar 32 ⟨w.heap.size, 0, none⟩).run Tryd.prog (X.putObj dd (.deferred none)) = .ok (.slice none 0 0) (X.putObj dd (.deferred none)) := by simp [loadVar, isAgg, run_underlying Tryd.underlying32, Result.andThen, HP6.out.1, go_sem]
    have hl7 : (loadVar 25 ⟨w.heap.size + 1, 0, none⟩).run Tryd.prog (X.putObj dd (.deferred none)) = .ok (.int .i64 2) (X.putObj dd (.deferred none)) := by simp [loadVar, isAgg, run_underlying Tryd.underlying25, Result.andThen, HP6.out.2, go_sem]
    exact ⟨_, results_cell_cell rfl rfl rfl hl6 hl7, rfl, HBY.out⟩
/-- Cut where it refuses. -/
theorem cut6_no (e n : Int) (v : Value) (zs : List Nat) (w : World) (hno : okId e n = false ∨ zs.length = 0 ∨ 65000 < zs.length) (ho : Octs w v zs) (ht : Steps w) :
    Calls Tryd.prog 25 #[.int .i64 e, .int .i64 n, v] w fun x w' => x = .returned (.tuple #[.slice none 0 0, .int .i64 2]) ∧ Below w.heap.size w w' := by
  by_cases h : zs.length = 0 ∨ 65000 < zs.length
  · exact cut6_none e n v zs w ho h
  · rcases hno with h1 | h1 | h1
    · exact cut6_refused e n v zs w h1 ho (by omega) (by omega) ht
    · exact absurd (.inl h1) h
    · exact absurd (.inr h1) h
end Go.Proofs.YthhdkadjlddmkaaDoor

/- What Join answers, in two halves. -/
namespace Go.Proofs.YthhdkadjlddmkaaDoor
open Go.RowKit

def joinK (o : Option (List Nat × Nat)) : Nat := match o with | some (_, k) => k | none => 0
def joinP (o : Option (List Nat × Nat)) : List Nat := match o with | some (p, _) => p | none => []
end Go.Proofs.YthhdkadjlddmkaaDoor

/- Contract of the program's 'Join'. -/
namespace Go.Proofs.YthhdkadjlddmkaaDoor
open Go.RowKit Go.Shelf
set_option linter.unusedVariables false
attribute [local go_sem] Oper.semAt_some

/-- Between two rounds: the payload so far, in its box. -/
def joinI (m : Nat) (zs : List Nat) (D1 : Nat → Prop) (pre : List Value) (X : World) : Prop :=
  ∃ v : Value, D1 = (fun k => k = m ∨ v.ownBlock = some k) ∧ v.ownBlock ≠ some m ∧ Boxed X m 32 v ∧ X.ownsRow m 5 1 v (payN zs pre.length).length (u8s (payN zs pre.length))
theorem joinI_local (m : Nat) (zs : List Nat) : Local (joinI m zs) := by
  refine ⟨?_, ?_⟩
  · rintro D1 pre X ⟨v, rfl, hv, b1, ho⟩ k hk
    rcases hk with rfl | hk
    · exact b1.lt
    · exact (ho.lt k hk).2
  · rintro D1 pre X X' ⟨v, rfl, hv, b1, ho⟩ hk
    exact ⟨v, rfl, hv, (hk.block _ (.inl rfl)).trans b1, ownsRow_same ho fun g hg => hk.block g (.inr hg)⟩

set_option maxRecDepth 20000 in
set_option maxHeartbeats 1000000 in
theorem join6_at (v : Value) (zs : List Nat) (e n : Int) (w : World) (ho : Octs w v zs) (hl : zs.length ≤ 60000) (ht : Steps w) :
    Calls Tryd.prog 44 #[v, .int .i64 e, .int .i64 n] w fun x w' => ∃ u, x = .returned (.tuple #[u, .int .i64 (joinK (joinS zs e n) : Nat)]) ∧ Octs w' u (joinP (joinS zs e n)) ∧ Below w.heap.size w w' ∧ ∀ y n c, u = .slice (some y) n c → w.heap.size ≤ y.block := by
  obtain ⟨a, cap, rfl⟩ := ho.shape
  have hcap := ho.capLe
  obtain ⟨L, hL⟩ : ∃ L, L = zs.length := ⟨_, rfl⟩
  rw [← hL] at ho hl hcap ⊢
  obtain ⟨bb, off, ha⟩ : ∃ bb off, 0 < L → a = some ⟨bb, off, none⟩ := by
    by_cases h0 : 0 < L
    · obtain ⟨bb, off, h, -⟩ := ho.addr h0
      exact ⟨bb, off, fun _ => h⟩
    · exact ⟨0, 0, fun h => absurd h h0⟩
  have HO : Hid (Octs w (.slice a L cap) zs) := ho
  have HT : Hid (Steps w) := ht
  have HLE : Hid (L = zs.length) := hL
  have HSE : Hid ((if (1 : Int) ≤ 65000 ∧ (65000 : Int) ≤ 65000 then ((65000 : Int) + 111) / 112 + 1 else 0) = 582) := by unfold Hid; decide
  have hm1 : ¬ (74496 : Int) < (L : Nat) := by omega
  have hm2 : (if (74496 : Int) < (L : Nat) then (74496 : Int) else (L : Nat)) = (L : Nat) := if_neg hm1
  have hc1 : (0 : Int) ≤ (L : Nat) := by omega
  have hc2 : (L : Int) ≤ (cap : Nat) := by omega
  clear ho ht hL
  refine (callsIn_wide (n := 6)).1 (callsIn_of_wp_marks (F := Fence.wide) (n := 6) Tryd.func44 rfl trivial ?_ rfl)
  simp only [Tryd.ntmps44, List.size_toArray, List.length_cons, List.length_nil, Nat.reduceAdd, Nat.reduceSub, Array.replicate_succ, Array.replicate_zero, List.push_toArray, List.append_toArray, List.nil_append, List.cons_append]
  gi_wp2_with fail
  refine ⟨trivial, callsIn_wide.2 ((sectors6 65000 _ (by omega) (by omega)).mono ?_)⟩
  rintro x w1 ⟨rfl, hw1⟩
  rw [HSE.out, hw1]
  clear hw1
  gi_wp2_with fail
  refine ⟨trivial, callsIn_wide.2 ((pieces_v _ _ a L cap rfl).mono ?_)⟩
  rintro x V00 ⟨rfl, rfl⟩
  gi_wp2_with fail
  obtain ⟨V0, hV0⟩ : ∃ V0, V0 = (w.alloc (.cells #[.slice none 0 0] 32)).alloc (.cells #[.slice a L cap] 32) := ⟨_, rfl⟩
  rw [← hV0]
  have hsz0 : V0.heap.size = w.heap.size + 2 := by rw [hV0]; simp
  have hBw : Below w.heap.size w V0 := by rw [hV0]; exact ((Below.refl _ w).alloc (Nat.le_refl _) _).alloc (by simp) _
  have x0 : Boxed V0 w.heap.size 32 (.slice none 0 0) := by rw [hV0]; exact (Boxed.new w _ _).alloc _
  have x1 : Boxed V0 (w.heap.size + 1) 32 (.slice a L cap) := by
    rw [hV0]
    have := Boxed.new (w.alloc (.cells #[.slice none 0 0] 32)) 32 (.slice a L cap)
    rwa [World.size_alloc] at this
  have HSZ : Hid (V0.heap.size = w.heap.size + 2) := hsz0
  clear hV0 hsz0
  have I0 : joinI w.heap.size zs (fun k => k = w.heap.size) [] V0 := by
    refine ⟨.slice none 0 0, ?_, by simp [Value.ownBlock], x0, World.ownsRow_nil _ _ _ _⟩
    funext k
    simp [Value.ownBlock]
  refine wpIn_rangeSep (n := 6) (gf := 67) (lb := #[.pointer (some ⟨w.heap.size + 1, 0, none⟩)]) rfl (enters_of Tryd.func67 (by kernel_rfl) rfl)
    (pieces_seq w (w.heap.size + 1) bb off L cap a ha zs HO.out (by omega) HT.out V0 hBw (fun k => k < w.heap.size ∨ k = w.heap.size + 1) (.inr rfl) (fun k hk => .inl hk) (fun k hk => by have := HSZ.out; omega) x1.cell)
    (Kept.refl _ _) (fun k hk => by have := HSZ.out; omega) (fun _ => rfl) (joinI w.heap.size zs) (fun _ _ _ _ => False) (joinI_local _ _) (fun _ => false_local) (fun k => k = w.heap.size) (fun k hk hd => by omega) I0 ?round ?done ?stop
  case round =>
    rintro l D1 pre y X hlw hnl hlo ⟨v, rfl, hvm, b1, hown⟩ ⟨⟨hoc, hgo⟩, hkR⟩
    obtain ⟨d, hd⟩ : ∃ d, d = dataP (getP (secAt6 zs pre.length)) := ⟨_, rfl⟩
    rw [← hd] at hoc
    obtain ⟨pa, pc, rfl⟩ := hoc.shape
    obtain ⟨pv, hpv⟩ : ∃ pv, pv = payN zs pre.length := ⟨_, rfl⟩
    rw [← hpv] at hown
    have HNX : Hid (payN zs (pre.length + 1) = pv ++ d) := by unfold Hid; rw [hpv, hd]; rfl
    have HPL : Hid (pv.length + d.length ≤ 140737488355328) := by
      unfold Hid
      have h1 := payN_length zs pre.length
      have h2 := dataP_length (secAt6 zs pre.length)
      have h3 := (hgo pre.length (Nat.le_refl _)).1
      rw [← hpv] at h1
      rw [← hd] at h2
      rw [← HLE.out] at h3
      omega
    have hd0 := hoc.len
    clear hd hpv
    gi_wp2
    refine ⟨Below.refl _ _, fun V hVk hVs => ?_⟩
    have hlX : l < X.heap.size := by obtain ⟨r, h⟩ := hlo; exact lt_of_heap h
    have nlm : w.heap.size ≠ l := fun e => hnl (.inl e.symm)
    have nlv : v.ownBlock ≠ some l := fun e => hnl (.inr e)
    have hXV : Kept (fun k => k < X.heap.size ∧ k ≠ l) X V := hVk.mono fun k hk => hk.2
    have hocV : Octs V (.slice pa d.length pc) d := hoc.only (loop_noOct hlo) hXV
    have v1 : Boxed V w.heap.size 32 v := (hVk.block _ nlm).trans b1
    have vown : V.ownsRow w.heap.size 5 1 v pv.length (u8s pv) := ownsRow_same hown fun g hg => hVk.block g (fun e => nlv (e ▸ hg))
    have HV1 : Hid (Boxed V w.heap.size 32 v) := v1
    have HVM : Hid (v.ownBlock ≠ some w.heap.size) := hvm
    have HVS : Hid (V.heap.size = X.heap.size) := hVs
    have HOW : Hid (V.ownsRow w.heap.size 5 1 v pv.length (u8s pv)) := vown
    have HOC : Hid (Octs V (.slice pa d.length pc) d) := hocV
    have HBV : Hid (w.heap.size ≤ V.heap.size) := Nat.le_of_lt v1.lt
    obtain ⟨i0, hi, hz0, hz1, hz2⟩ := info_parts Tryd.infoU8'
    have c1 := v1.cell
    have f1 := v1.frozen
    clear hoc hgo hkR hown hvm b1 hVk hVs hXV hocV v1 vown nlm nlv
    gi_wp2_with (gi_at_builtin; refine wpListIn_append_octs_at _ rfl _ _ 32 rfl w.heap.size 5 i0 Tryd.underlying32 hi hz0 hz1 hz2 v pv.length pv rfl HOW.out _ d rfl HOC.out HPL.out HBV.out ?_)
    intro v5 W5 hown5 hg5 hat
    have hs5 : V.heap.size ≤ W5.heap.size := hg5.size
    have hsm : ∀ z ∈ pv ++ d, z < 256 := by rw [← HNX.out]; exact payN_small HO.out.small _
    obtain ⟨va, vc, hv5⟩ := (Octs.owned hown5 hsm).shape
    subst hv5
    have b5 : Boxed W5 w.heap.size 32 v := HV1.out.kept hg5 (fun e => HVM.out e.symm)
    have c5 := b5.cell
    have f5 := b5.frozen
    obtain ⟨W6, hW6⟩ : ∃ W6, W6 = W5.setCell ⟨w.heap.size, 0, none⟩ (.slice va (pv ++ d).length vc) := ⟨_, rfl⟩
    have b6 : Boxed W6 w.heap.size 32 (.slice va (pv ++ d).length vc) := by rw [hW6]; exact b5.set _
    have hvm5 : (Value.slice va (pv ++ d).length vc).ownBlock ≠ some w.heap.size := fun e => by
      rcases hat with h | h
      · exact HVM.out (h ▸ e)
      · rw [e] at h
        have h1 := HV1.out.lt
        simp only [Option.some.injEq] at h
        omega
    have own6 : W6.ownsRow w.heap.size 5 1 (.slice va (pv ++ d).length vc) (pv ++ d).length (u8s (pv ++ d)) := by
      rw [hW6]
      have h1 : W5.ownsRow w.heap.size 5 1 (.slice va (pv ++ d).length vc) (pv ++ d).length (u8s (pv ++ d)) := by
        have := hown5
        rwa [← List.length_append] at this
      exact ownsRow_same h1 fun g hg => Below.heap_setCell _ _ _ _ (show g ≠ w.heap.size from fun e => hvm5 (e ▸ hg))
    have k6 : Kept (fun k => k < X.heap.size ∧ ¬ (k = w.heap.size ∨ v.ownBlock = some k)) V W6 := by
      rw [hW6]
      exact ((Kept.refl _ V).grown hg5 fun k hk => ⟨by have h1 := hk.1; have h2 := HVS.out; omega, fun e => hk.2 (.inr e)⟩).setCell (p := ⟨w.heap.size, 0, none⟩) (fun hk => hk.2 (.inl rfl)) _
    have HFIN : Hid (Kept (fun k => k < X.heap.size ∧ ¬ (k = w.heap.size ∨ v.ownBlock = some k)) V W6 ∧ ∃ D', joinI w.heap.size zs D' (pre ++ [.slice pa d.length pc]) W6 ∧ Grew (fun k => k = w.heap.size ∨ v.ownBlock = some k) D' X.heap.size) := by
      have hlen : (pre ++ [Value.slice pa d.length pc]).length = pre.length + 1 := by rw [List.length_append]; rfl
      refine ⟨k6, _, ⟨_, rfl, hvm5, b6, by rw [hlen, HNX.out]; exact own6⟩, fun k hk => ?_⟩
      rcases hk with hk | hk
      · exact .inl (.inl hk)
      · rcases hat with h | h
        · exact .inl (.inr (h ▸ hk))
        · right
          rw [h] at hk
          simp only [Option.some.injEq] at hk
          have := HVS.out
          omega
    have HW6 : Hid (W6 = W5.setCell ⟨w.heap.size, 0, none⟩ (.slice va (pv ++ d).length vc)) := hW6
    clear hown5 hg5 hat hs5 hsm b5 hW6 b6 hvm5 own6 k6 c1 f1
    generalize (pv ++ d).length = T at *
    gi_wp2
    rw [← HW6.out]
    exact HFIN.out
  case done =>
    rintro dd D1 xs X hdd hnd hS ⟨v, rfl, hvm, b1, hown⟩ hgr hsp hK
    obtain ⟨P, hP⟩ : ∃ P, P = payN zs xs.length := ⟨_, rfl⟩
    have hJ := join_prog zs e n xs.length hS.1 hS.2
    rw [← hP] at hown hJ
    have hsm : ∀ z ∈ P, z < 256 := by rw [hP]; exact payN_small HO.out.small _
    have hoP : Octs X v P := Octs.owned hown hsm
    obtain ⟨pa, pc, hv⟩ := hoP.shape
    subst hv
    have HPA : Hid (∀ y, pa = some y → w.heap.size ≤ y.block) := fun y e => by
      subst e
      exact (hown.lt y.block rfl).1
    have hX0 : w.heap.size < X.heap.size := b1.lt
    have hddX : dd < X.heap.size := lt_of_heap hK
    have hBX : Below w.heap.size w X := hBw.trans (hsp.below fun k hk => ⟨by have := HSZ.out; omega, by omega⟩)
    have hdw : w.heap.size ≤ dd := by have := HSZ.out; omega
    have HTX : Hid (Steps X) := HT.out.below hBX
    have HPX : Hid (Octs X (.slice pa P.length pc) P) := hoP
    have HJ : Hid (joinS zs e n = if okId e n = true ∧ (1 ≤ P.length ∧ P.length ≤ 65000) ∧ isPre (cutS e n P) zs = true then some (P, partsN P.length + 1) else none) := hJ
    have HKD : Hid (X.heap[dd]? = some (.deferred (some []))) := hK
    have HBX : Hid (Below w.heap.size w X) := hBX
    have HB1 : Hid (Boxed X w.heap.size 32 (.slice pa P.length pc)) := b1
    have HEND : Hid (∀ W5 : World, Below X.heap.size X W5 → W5.heap[dd]? = some (.deferred (some [])) ∧ Below w.heap.size w (W5.putObj dd (.deferred none)) ∧ Octs (W5.putObj dd (.deferred none)) (.slice pa P.length pc) P) := fun W5 h5 => by
      have h1 : W5.heap[dd]? = some (.deferred (some [])) := (h5.block dd hddX).trans hK
      have h2 : Below w.heap.size w W5 := hBX.trans (h5.mono hBX.size)
      refine ⟨h1, h2.grown (grownBy_putObj' W5 dd _) h2.size (fun k e => by cases e; omega), ?_⟩
      refine (hoP.kept h5).only (p := dd) (fun i z e => ?_) ((Only.refl _ _).trans ?_)
      · simp [World.cell?, h1] at e
      · exact Kept.putObj _ _ _ _ (fun h => h.2 rfl) (fun k hk => hk.1)
    have c1 := b1.cell
    clear hvm hown hgr hsp hK hP hJ hsm hoP b1 hBX hS hnd
    gi_wp2_with fail
    by_cases hno : okId e n = false ∨ P.length = 0 ∨ 65000 < P.length
    · have HV : Hid (joinS zs e n = none) := by
        unfold Hid
        rw [HJ.out, if_neg]
        rintro ⟨h1, h2, -⟩
        rcases hno with h | h | h
        · rw [h] at h1; cases h1
        · omega
        · omega
      refine ⟨trivial, callsIn_wide.2 ((cut6_no e n _ P X hno HPX.out HTX.out).mono ?_)⟩
      rintro x W5 ⟨rfl, hb5⟩
      obtain ⟨e1, e2, e3⟩ := HEND.out W5 hb5
      have HE : Hid (Below w.heap.size w (W5.putObj dd (.deferred none))) := e2
      clear hno hb5 HEND e2 e3
      gi_wp2
      refine ⟨trivial, ?_⟩
      gi_wp2
      refine ⟨by simp, .inl ⟨_, _, rfl, run_takeDeferred e1, ?_⟩⟩
      exact ⟨_, results_tmp2 rfl _ _ _, _, (by rw [HV.out]; rfl), (by rw [HV.out]; exact octs_nil _), HE.out, fun y n c e => by cases e⟩
    · have hid : okId e n = true := by cases h : okId e n with
        | true => rfl
        | false => exact absurd (.inl h) hno
      have hl1 : 1 ≤ P.length := by omega
      have hl2 : P.length ≤ 65000 := by omega
      refine ⟨trivial, callsIn_wide.2 ((cut6_ok e n _ P X hid HPX.out hl1 hl2 HTX.out).mono ?_)⟩
      rintro x W5 ⟨u, rfl, hu, hb5⟩
      obtain ⟨ua, uc, hush⟩ := hu.shape
      subst hush
      have hoz : Octs W5 (.slice a L cap) zs := (HO.out.kept HBX.out).kept (hb5.mono (Nat.le_refl _))
      obtain ⟨T, hT⟩ : ∃ T, T = (cutS e n P).length := ⟨_, rfl⟩
      rw [← hT] at hu ⊢
      have hTe : T = 128 * (partsN P.length + 1) := by rw [hT, cutS_length]
      have hpn : partsN P.length ≤ 600 := by unfold partsN; omega
      have HU : Hid (Octs W5 (.slice ua T uc) (cutS e n P)) := hu
      have HZ : Hid (Octs W5 (.slice a L cap) zs) := hoz
      have HB5 : Hid (Below X.heap.size X W5) := hb5
      have HOK : Hid (okId e n = true ∧ 1 ≤ P.length ∧ P.length ≤ 65000) := ⟨hid, hl1, hl2⟩
      obtain ⟨e1, e2, e3⟩ := HEND.out W5 hb5
      have HE : Hid (Below w.heap.size w (W5.putObj dd (.deferred none)) ∧ Octs (W5.putObj dd (.deferred none)) (.slice pa P.length pc) P) := ⟨e2, e3⟩
      have c5 : W5.cell? ⟨w.heap.size, 0, none⟩ = some (.slice pa P.length pc) := (hb5.cell (p := ⟨w.heap.size, 0, none⟩) hX0).trans c1
      obtain ⟨Q, hQ⟩ : ∃ Q, Q = partsN P.length + 1 := ⟨_, rfl⟩
      have HQ : Hid (partsN P.length + 1 = Q) := hQ.symm
      have hdiv : (T : Int).tdiv 128 = (Q : Nat) := by rw [Int.tdiv_eq_ediv_of_nonneg (by omega)]; omega
      have hw1 : IntKind.i64.wrap (Q : Nat) = (Q : Nat) := by rw [IntKind.wrap_i64]; omega
      clear hno hb5 HEND e2 e3 hu hoz hid hl1 hl2 hT hTe hQ hpn
      gi_wp2_with fail
      refine ⟨trivial, callsIn_wide.2 ((hasPrefix_octs _ _ _ _ _ HZ.out HU.out).mono ?_)⟩
      rintro x W6 ⟨rfl, rfl⟩
      cases hpre : isPre (cutS e n P) zs with
      | true =>
        have HV : Hid (joinS zs e n = some (P, Q)) := by
          unfold Hid
          rw [HJ.out, if_pos ⟨HOK.out.1, HOK.out.2, hpre⟩, HQ.out]
        clear hpre
        gi_wp2
        refine ⟨by simp, .inl ⟨_, _, rfl, run_takeDeferred e1, ?_⟩⟩
        exact ⟨_, results_tmp2 rfl _ _ _, _, (by rw [HV.out]; rfl), (by rw [HV.out]; exact HE.out.2), HE.out.1, fun y n c e => by cases e; exact HPA.out _ rfl⟩
      | false =>
        have HV : Hid (joinS zs e n = none) := by
          unfold Hid
          rw [HJ.out, if_neg]
          rintro ⟨-, -, h⟩
          rw [hpre] at h
          cases h
        clear hpre
        gi_wp2
        refine ⟨by simp, .inl ⟨_, _, rfl, run_takeDeferred e1, ?_⟩⟩
        exact ⟨_, results_tmp2 rfl _ _ _, _, (by rw [HV.out]; rfl), (by rw [HV.out]; exact octs_nil _), HE.out.1, fun y n c e => by cases e⟩
  case stop =>
    rintro dd c D1 pre X _ _ _ h
    exact h.elim
theorem join6 (v : Value) (zs : List Nat) (e n : Int) (w : World) (ho : Octs w v zs) (hl : zs.length ≤ 60000) (ht : Steps w) :
    Calls Tryd.prog 44 #[v, .int .i64 e, .int .i64 n] w fun x w' => ∃ u, x = .returned (.tuple #[u, .int .i64 (joinK (joinS zs e n) : Nat)]) ∧ Octs w' u (joinP (joinS zs e n)) ∧ Below w.heap.size w w' :=
  (join6_at v zs e n w ho hl ht).mono fun x w' ⟨u, h1, h2, h3, _⟩ => ⟨u, h1, h2, h3⟩
end Go.Proofs.YthhdkadjlddmkaaDoor
