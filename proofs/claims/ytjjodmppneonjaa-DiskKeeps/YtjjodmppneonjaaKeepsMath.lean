/- What the law 'DiskKeeps' wants of a disk, and of the crashes that came in. -/
import Derived.Test.YtjjodmppneonjaaLawOff
import Derived.Deep.Strs
namespace Go.Proofs.Ytjjodmppneonjaa
open Go.RowKit
set_option linter.unusedVariables false

/-! ### Crashes that came in -/
structure Cr where
  kv : Value
  zs : List Int
  torn : Int
  cut : Int
def crCells (c : Cr) : List Value := [c.kv, .int .i64 c.torn, .int .i64 c.cut]
/-- The value is a slice whose elements are these crashes. -/
def Crashes (w : World) (v : Value) (cs : List Cr) : Prop :=
  cs.length ≤ maxLen ∧ ∃ a cap, v = .slice a cs.length cap ∧ (cs = [] ∨ ∃ b off, a = some ⟨b, off, none⟩ ∧ b < w.heap.size ∧ ∀ j c, cs[j]? = some c → w.rangeAt b (off + j * 3) (crCells c) ∧ Ints w c.kv c.zs)
theorem Crashes.kept {w w' : World} {v : Value} {cs : List Cr} (h : Crashes w v cs) (hb : Below w.heap.size w w') : Crashes w' v cs := by
  obtain ⟨h1, a, cap, rfl, h2⟩ := h
  refine ⟨h1, a, cap, rfl, ?_⟩
  rcases h2 with h2 | ⟨b, off, rfl, hlt, hc⟩
  · exact .inl h2
  · refine .inr ⟨b, off, rfl, Nat.lt_of_lt_of_le hlt hb.size, fun j c hj => ?_⟩
    obtain ⟨h3, h4⟩ := hc j c hj
    exact ⟨rangeAt_same h3 (hb.block b hlt), h4.kept hb⟩
theorem Crashes.lenEq {w : World} {a : Option Addr} {n cap : Nat} {cs : List Cr} (h : Crashes w (.slice a n cap) cs) : cs.length = n := by
  obtain ⟨_, a', cap', e, _⟩ := h
  simp only [Value.slice.injEq] at e
  exact e.2.1.symm
theorem Crashes.addr {w : World} {a : Option Addr} {n cap : Nat} {cs : List Cr} (h : Crashes w (.slice a n cap) cs) (h0 : 0 < n) : ∃ b off, a = some ⟨b, off, none⟩ ∧ b < w.heap.size ∧ ∀ j c, cs[j]? = some c → w.rangeAt b (off + j * 3) (crCells c) ∧ Ints w c.kv c.zs := by
  have hl := h.lenEq
  obtain ⟨_, a', cap', e, h5⟩ := h
  simp only [Value.slice.injEq] at e
  obtain ⟨rfl, _, rfl⟩ := e
  rcases h5 with rfl | h5
  · simp at hl; omega
  · exact h5

/-! ### The sectors that are safe -/
theorem small_7 (k : Nat) : ∀ t ∈ [7, k % 256], t < 256 := by
  intro t ht
  simp at ht
  omega
def sec7 (k : Nat) : Sec := secOf [7, k % 256] (by simp) (small_7 k)
theorem sector_7 (w : World) (k : Nat) : Calls Try.prog 15 #[.string (strN [7, k % 256])] w fun e w' => e = .returned (.slice (some ⟨w.heap.size, 0, none⟩) 128 128) ∧ w' = w.alloc (.cells (sec7 k).cells.toArray 5) := sector_v w [7, k % 256] (by simp) (small_7 k)
theorem sec7_takes (k : Nat) : (sec7 k).l.take [7, k % 256].length = [7, k % 256] := rfl
theorem conv_7 {w : World} {b k : Nat} {t : TypeId} (hk : k < 8) (h : w.heap[b]? = some (.cells #[.int .u8 7, .int .u8 (k : Nat)] t (0, 0))) :
    (convert 22 9 (.slice (some ⟨b, 0, none⟩) 2 2)).run Try.prog w = .ok (.string (strN [7, k % 256])) w := by
  refine conv_octs (zs := [7, k % 256]) ?_ 22 5 9 Try.underlying22 Try.underlying5 Try.underlying9
  refine ⟨small_7 k, by simp [maxLen], _, 2, rfl, by simp, by decide, .inr ⟨_, rfl, .inr ⟨_, 0, rfl, (Array.getElem?_eq_some_iff.1 h).1, ?_⟩⟩⟩
  intro j hj
  rw [cell_of_row _ _ _ _ _ _ h, Nat.zero_add]
  have : j = 0 ∨ j = 1 := by simp at hj; omega
  rcases this with rfl | rfl
  · rfl
  · have e : k % 256 = k := by omega
    simp [e]

/-- The disk behind i writes. -/
def keepSt (i : Nat) : St := { n := 8, safe := fun _ => Sec.zero, waits := (List.range i).map fun k => (k, sec7 k), written := i, left := -1 }
theorem keep_on (i : Nat) : (keepSt i).wait i (sec7 i) = keepSt (i + 1) := St.ext' rfl rfl (by simp [St.wait, keepSt, List.range_succ]) rfl rfl
theorem keep_safe (f : Nat → Sec) (i : Nat) : ∀ k, k < i → applyW f ((List.range i).map fun k => (k, sec7 k)) k = sec7 k := by
  induction i with
  | zero => intro k hk; omega
  | succ i ih =>
    intro k hk
    rw [List.range_succ, List.map_append, List.map_singleton, applyW_snoc]
    by_cases e : k = i
    · subst e; exact if_pos rfl
    · exact (if_neg e).trans (ih k (by omega))

structure Keeps (T : Nat → Bool) (j : Nat) (S : St) : Prop where
  n : S.n = 8
  left : S.left = -1
  many : S.waits.length ≤ j
  wr : S.written ≤ 8 + j
  wait : ∀ p ∈ S.waits, T p.1 = true
  safe : ∀ k, k < 8 → T k = false → S.safe k = sec7 k
theorem Keeps.first : Keeps (fun _ => false) 0 (keepSt 8).spent.flushed where
  n := rfl
  left := rfl
  many := Nat.le_refl _
  wr := Nat.le_refl _
  wait p hp := by cases hp
  safe k hk _ := keep_safe _ 8 k hk
theorem Keeps.waits {T : Nat → Bool} {j : Nat} {S : St} (h : Keeps T j S) (q : Nat) (s : Sec) : Keeps (fun k => T k || decide (k = q)) (j + 1) (S.wait q s) where
  n := h.n
  left := by
    show (if 0 < S.left then S.left - 1 else S.left) = -1
    rw [h.left]; rfl
  many := by
    show (S.waits ++ [(q, s)]).length ≤ j + 1
    have := h.many
    simp; omega
  wr := by
    show S.written + 1 ≤ 8 + (j + 1)
    have := h.wr
    omega
  wait p hp := by
    rcases List.mem_append.1 hp with hp | hp
    · simp [h.wait p hp]
    · simp at hp; subst hp; simp
  safe k hk hT := by
    simp at hT
    exact h.safe k hk hT.1
theorem crashTo_other {zs : List Int} {torn cut : Int} {f : Nat → Sec} {ps : List Wr} {k : Nat} (h : ∀ p ∈ ps, p.1 ≠ k) : ∀ m, crashTo zs torn cut f ps m k = f k := by
  intro m
  induction m with
  | zero => rfl
  | succ m ih =>
    cases hp : ps[m]? with
    | none => simp only [crashTo, hp]; exact ih
    | some p =>
      simp only [crashTo, hp]
      have hne := h p (List.mem_of_getElem? hp)
      simp only [crashStep]
      split
      · exact (if_neg (fun e => hne e.symm)).trans ih
      · split
        · exact (if_neg (fun e => hne e.symm)).trans ih
        · exact ih
theorem Keeps.other {T : Nat → Bool} {j : Nat} {S : St} (h : Keeps T j S) {k : Nat} (hT : T k = false) : ∀ p ∈ S.waits, p.1 ≠ k := fun p hp e => by
  have := h.wait p hp
  rw [e, hT] at this
  cases this
theorem Keeps.crashed {T : Nat → Bool} {j : Nat} {S : St} (h : Keeps T j S) (zs : List Int) (torn cut : Int) : Keeps T j (S.crashed zs torn cut) where
  n := h.n
  left := rfl
  many := Nat.zero_le _
  wr := h.wr
  wait p hp := by cases hp
  safe k hk hT := (crashTo_other (h.other hT) _).trans (h.safe k hk hT)
theorem Keeps.more {T : Nat → Bool} {j j' : Nat} {S : St} (h : Keeps T j S) (hj : j ≤ j') : Keeps T j' S := ⟨h.n, h.left, Nat.le_trans h.many hj, by have := h.wr; omega, h.wait, h.safe⟩
theorem Keeps.spent {T : Nat → Bool} {j : Nat} {S : St} (h : Keeps T j S) : Keeps T j S.spent where
  n := h.n
  left := by
    show (if 0 < S.left then S.left - 1 else S.left) = -1
    rw [h.left]; rfl
  many := h.many
  wr := h.wr
  wait := h.wait
  safe := h.safe
theorem lastOf_none {ps : List Wr} {k : Nat} (h : ∀ p ∈ ps, p.1 ≠ k) : lastOf ps k = none := by
  cases e : lastOf ps k with
  | none => rfl
  | some i =>
    obtain ⟨p, hp, hk, _⟩ := lastOf_some e
    exact absurd hk (h p (List.mem_of_getElem? hp))
theorem Keeps.sees {T : Nat → Bool} {j : Nat} {S : St} (h : Keeps T j S) {k : Nat} (hk : k < 8) (hT : T k = false) : S.see k = sec7 k :=
  (see_none (lastOf_none (h.other hT))).trans (h.safe k hk hT)

/-! ### What was turned -/
def turnA (T : Nat → Bool) : Array Value := ((List.range 8).map fun k => Value.bool (T k)).toArray
theorem turnA_size (T : Nat → Bool) : (turnA T).size = 8 := by simp [turnA]
theorem turnA_get (T : Nat → Bool) (k : Nat) (h : k < 8) : (turnA T)[k]? = some (.bool (T k)) := by simp [turnA, h]
theorem turnA_set (T : Nat → Bool) (q : Nat) (h : q < 8) : (turnA T).setIfInBounds q (.bool true) = turnA (fun k => T k || decide (k = q)) := by
  apply Array.ext
  · simp [turnA]
  · intro i h1 h2
    simp only [Array.size_setIfInBounds, turnA_size] at h1
    rw [Array.getElem_setIfInBounds (by simpa [turnA_size] using h1)]
    simp only [turnA, List.getElem_toArray, List.getElem_map, List.getElem_range]
    by_cases e : q = i
    · subst e; simp
    · have : ¬ i = q := fun x => e x.symm
      simp [e, this]
theorem Try.zeroTurn (w : World) : (zeroValue 42).run Try.prog w = .ok (.agg (turnA fun _ => false)) w := (zero_of_info (n := 8) (by kernel_rfl)).1 w
end Go.Proofs.Ytjjodmppneonjaa
