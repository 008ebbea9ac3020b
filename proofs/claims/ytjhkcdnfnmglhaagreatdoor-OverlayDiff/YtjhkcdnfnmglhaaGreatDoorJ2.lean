/- Some texts of mine, one behind the other (joined by program). -/
import Derived.Test.YtjhkcdnfnmglhaaGreatDoorJ1
import Derived.BigQuiet
import Derived.WalkKit
import Derived.ProofKit
import Derived.Below
import Derived.Laws.ResultCell
import Derived.Maps.AppendAt
import Derived.Deep.DeepMust
import Derived.Lib.LazyBuf
import Derived.Laws.CopyOwn
import Derived.Test.YtjhkcdnfnmglhaaGreatDoorProg

/- How a board lies in memory; what a call may turn. -/
namespace Go.Proofs.YtjhkcdnfnmglhaaGreatDoor
open Go.RowKit
set_option linter.unusedVariables false
set_option maxRecDepth 20000

/-! ### Only two blocks may have turned -/
def Only2 (b f : Nat) (w w' : World) : Prop := Kept (fun k => k < w.heap.size ∧ k ≠ b ∧ k ≠ f) w w'
theorem Only2.refl (b f : Nat) (w : World) : Only2 b f w w := Kept.refl _ w
theorem Only2.size {b f : Nat} {w w' : World} (h : Only2 b f w w') : w.heap.size ≤ w'.heap.size := Kept.size h
theorem Only2.trans {b f : Nat} {x y z : World} (h : Only2 b f x y) (k : Only2 b f y z) : Only2 b f x z :=
  Kept.trans (K := fun i => i < x.heap.size ∧ i ≠ b ∧ i ≠ f) h (Kept.mono k fun i hi => ⟨Nat.lt_of_lt_of_le hi.1 h.size, hi.2⟩)
theorem Only2.drew {b f : Nat} {a w : World} (h : Only2 b f a w) : Only2 b f a w.drew := Kept.drew h
theorem Only2.undrew {b f : Nat} {a w : World} (h : Only2 b f a.drew w) : Only2 b f a w := Kept.undrew (a := a) h
theorem Only2.ofBelow {b f : Nat} {w w' : World} (h : Below w.heap.size w w') : Only2 b f w w' := Kept.ofBelow h fun _ hk => hk.1
theorem Only2.ofOne {b f : Nat} {w w' : World} (h : Only b w w') : Only2 b f w w' := Kept.mono (K := fun i => i < w.heap.size ∧ i ≠ b) h fun _ hk => ⟨hk.1, hk.2.1⟩
theorem Only2.below {b f B : Nat} {w w' : World} (h : Only2 b f w w') (hb : B ≤ b) (hf : B ≤ f) (hB : B ≤ w.heap.size) : Below B w w' := Kept.below h fun k hk => ⟨by omega, by omega, by omega⟩
theorem Only2.setCell {b f : Nat} {a w : World} (h : Only2 b f a w) (i : Nat) (u : Value) : Only2 b f a (w.setCell ⟨f, i, none⟩ u) :=
  Kept.setCell (K := fun i => i < a.heap.size ∧ i ≠ b ∧ i ≠ f) h (fun hk => hk.2.2 rfl) u
theorem Only2.heap {b f : Nat} {w w' : World} (h : Only2 b f w w') {k : Nat} (hk : k < w.heap.size) (h1 : k ≠ b) (h2 : k ≠ f) : w'.heap[k]? = w.heap[k]? := Kept.block h k ⟨hk, h1, h2⟩
theorem ne_type {w : World} {a b : Nat} {C D : Array Value} {s t : TypeId} {f g : Nat × Nat} (h : w.heap[a]? = some (.cells C s f)) (k : w.heap[b]? = some (.cells D t g)) (hst : s ≠ t) : a ≠ b := by
  intro e
  subst e
  have := h.symm.trans k
  simp at this
  exact hst this.2.1

/-! ### A board -/
/-- Of each cluster how many are free, in block f. -/
def FreeAt (w : World) (f n : Nat) (B : Nat → Bool) : Prop := ∃ cur, w.heap[f]? = some (.cells cur 3 (0, 0)) ∧ ∀ c, c < wn n → cur[c]? = some (.int .i64 (fr B n c : Nat))
theorem FreeAt.same {w w' : World} {f n : Nat} {B : Nat → Bool} (h : FreeAt w f n B) (h1 : w'.heap[f]? = w.heap[f]?) : FreeAt w' f n B := by
  obtain ⟨cur, h2, h3⟩ := h
  exact ⟨cur, h1.trans h2, h3⟩
theorem FreeAt.lt {w : World} {f n : Nat} {B : Nat → Bool} (h : FreeAt w f n B) : f < w.heap.size := by
  obtain ⟨cur, h2, h3⟩ := h
  exact lt_of_heap h2
theorem FreeAt.c_cell {w : World} {f n : Nat} {B : Nat → Bool} (h : FreeAt w f n B) (c : Nat) (hc : c < wn n) : w.cell? ⟨f, c, none⟩ = some (.int .i64 (fr B n c : Nat)) := by
  obtain ⟨cur, h2, h3⟩ := h
  rw [cell_of_row w f _ _ _ _ h2, h3 c hc]
theorem FreeAt.c_free {w : World} {f n : Nat} {B : Nat → Bool} (h : FreeAt w f n B) (c : Nat) : w.frozen? ⟨f, c, none⟩ = false := by
  obtain ⟨cur, h2, h3⟩ := h
  simp [World.frozen?, h2]
/-- One cluster has another number. -/
theorem FreeAt.put {w : World} {f n : Nat} {B C : Nat → Bool} (h : FreeAt w f n B) (d : Nat) (x : Nat) (hd : d < wn n) (hx : fr C n d = x) (ho : ∀ c, c ≠ d → fr C n c = fr B n c) :
    FreeAt (w.setCell ⟨f, d, none⟩ (.int .i64 (x : Nat))) f n C := by
  obtain ⟨cur, h2, h3⟩ := h
  have hs : d < cur.size := by
    have := h3 d hd
    exact (Array.getElem?_eq_some_iff.1 this).1
  refine ⟨_, heap_set_row h2 d _, fun c hc => ?_⟩
  rw [Array.getElem?_setIfInBounds]
  by_cases he : d = c
  · subst he
    rw [if_pos rfl, if_pos hs, hx]
  · rw [if_neg he, h3 c hc, ho c (fun e => he e.symm)]

/-- A board of n slots at q, B of which are taken: its row of bits at p and b, its numbers at f. -/
structure BoardAt (w : World) (q p b f cap n : Nat) (B : Nat → Bool) : Prop where
  head : w.heap[q]? = some (.cells #[.pointer (some ⟨p, 0, none⟩), .slice (some ⟨f, 0, none⟩) (wn n) cap] 101 (0, 0))
  row : RowAt w p b n B
  nums : FreeAt w f n B
  pos : 1 ≤ n
  room : wn n ≤ cap ∧ cap ≤ maxLen
theorem BoardAt.p_cell {w : World} {q p b f cap n : Nat} {B : Nat → Bool} (h : BoardAt w q p b f cap n B) : w.cell? ⟨q, 0, none⟩ = some (.pointer (some ⟨p, 0, none⟩)) := by
  rw [cell_of_row w q _ _ _ _ h.head]; rfl
theorem BoardAt.f_cell {w : World} {q p b f cap n : Nat} {B : Nat → Bool} (h : BoardAt w q p b f cap n B) : w.cell? ⟨q, 1, none⟩ = some (.slice (some ⟨f, 0, none⟩) (wn n) cap) := by
  rw [cell_of_row w q _ _ _ _ h.head]; rfl
theorem head_off {w : World} {q p b f n : Nat} {B B' : Nat → Bool} {C : Array Value} (h : w.heap[q]? = some (.cells C 101 (0, 0))) (hr : RowAt w p b n B) (hf : FreeAt w f n B') : q ≠ p ∧ q ≠ b ∧ q ≠ f ∧ p ≠ f ∧ b ≠ f := by
  obtain ⟨cur, h2, h3⟩ := hf
  exact ⟨ne_type h hr.head (by decide), ne_type h hr.body (by decide), ne_type h h2 (by decide), ne_type hr.head h2 (by decide), ne_type hr.body h2 (by decide)⟩
theorem BoardAt.same {w w' : World} {q p b f cap n : Nat} {B : Nat → Bool} (h : BoardAt w q p b f cap n B) (h1 : w'.heap[q]? = w.heap[q]?) (h2 : w'.heap[p]? = w.heap[p]?) (h3 : w'.heap[b]? = w.heap[b]?) (h4 : w'.heap[f]? = w.heap[f]?) : BoardAt w' q p b f cap n B :=
  ⟨h1.trans h.head, h.row.same h2 h3, h.nums.same h4, h.pos, h.room⟩
theorem BoardAt.q_lt {w : World} {q p b f cap n : Nat} {B : Nat → Bool} (h : BoardAt w q p b f cap n B) : q < w.heap.size := lt_of_heap h.head
theorem BoardAt.below {w w' : World} {q p b f cap n : Nat} {B : Nat → Bool} (h : BoardAt w q p b f cap n B) (hb : Below w.heap.size w w') : BoardAt w' q p b f cap n B :=
  h.same (hb.block _ h.q_lt) (hb.block _ h.row.p_lt) (hb.block _ h.row.b_lt) (hb.block _ h.nums.lt)
theorem BoardAt.drew {w : World} {q p b f cap n : Nat} {B : Nat → Bool} (h : BoardAt w q p b f cap n B) : BoardAt w.drew q p b f cap n B := ⟨h.head, h.row.drew, h.nums, h.pos, h.room⟩
theorem RowAt.drewN {w : World} {p b n : Nat} {B : Nat → Bool} (h : RowAt w p b n B) (m : Nat) : RowAt (w.drewN m) p b n B := ⟨h.head, h.body, h.small, h.tail⟩
theorem BoardAt.drewN {w : World} {q p b f cap n : Nat} {B : Nat → Bool} (h : BoardAt w q p b f cap n B) (m : Nat) : BoardAt (w.drewN m) q p b f cap n B := ⟨h.head, h.row.drewN m, h.nums, h.pos, h.room⟩
theorem below_drewN (w : World) (n : Nat) : Below w.heap.size w (w.drewN n) := ⟨rfl, rfl, rfl, Nat.le_refl _, fun _ _ => rfl⟩
/-- Another object's block turned. -/
theorem BoardAt.only {w w' : World} {q p b f cap n k : Nat} {B : Nat → Bool} {C : Array Value} {t : TypeId} {g : Nat × Nat} (h : BoardAt w q p b f cap n B) (ho : Only k w w') (hk : w.heap[k]? = some (.cells C t g))
    (h1 : 101 ≠ t) (h2 : 119 ≠ t) (h3 : 122 ≠ t) (h4 : 3 ≠ t) : BoardAt w' q p b f cap n B := by
  obtain ⟨cur, h5, h6⟩ := h.nums
  exact h.same (ho.heap h.q_lt (ne_type h.head hk h1)) (ho.heap h.row.p_lt (ne_type h.row.head hk h2)) (ho.heap h.row.b_lt (ne_type h.row.body hk h3)) (ho.heap h.nums.lt (ne_type h5 hk h4))
theorem Steps.only2 {w w' : World} {b f : Nat} (h : Steps w) (ho : Only2 b f w w') (hb : 0 < b) (hf : 0 < f) : Steps w' := fun j hj => (Kept.cell (p := ⟨0, j, none⟩) ho ⟨h.pos, by show 0 ≠ b; omega, by show 0 ≠ f; omega⟩).trans (h j hj)
theorem Steps.only {w w' : World} {k : Nat} (h : Steps w) (ho : Only k w w') (hk : 0 < k) : Steps w' := fun j hj => (ho.cell (q := ⟨0, j, none⟩) h.pos (Nat.ne_of_lt hk)).trans (h j hj)
theorem Steps.below {w w' : World} (h : Steps w) (hb : Below w.heap.size w w') : Steps w' := h.kept hb h.pos

/-! ### take, give -/
set_option maxRecDepth 20000 in
set_option maxHeartbeats 1000000 in
theorem take_ok (w : World) (q p b f cap n : Nat) (B : Nat → Bool) (a k : Nat) (h : BoardAt w q p b f cap n B) (ht : Steps w) (hk : a + k ≤ n) (hB : ∀ i, a ≤ i → i < a + k → B i = false) :
    Calls Tryz.prog 57 #[.pointer (some ⟨q, 0, none⟩), .int .i64 (a : Nat), .int .i64 (k : Nat)] w fun x w' => x = .returned (.int .i64 0) ∧ BoardAt w' q p b f cap n (putB B a k true) ∧ Only2 b f w w' := by
  have hp := h.p_cell
  have hn := h.row.small
  have H : Hid (BoardAt w q p b f cap n B) := h
  have HB : Hid (∀ i, a ≤ i → i < a + k → B i = false) := hB
  have HC : Hid (Calls Tryz.prog 71 #[.pointer (some ⟨p, 0, none⟩), .int .i64 (a : Nat), .int .i64 (k : Nat)] w fun x w' => x = .returned (.int .i64 0) ∧ RowAt w' p b n (putB B a k true) ∧ Only b w w') := set_ok w p b n B a k h.row ht hk hB
  clear h ht hB
  go_enter Tryz.func57, Tryz.ntmps57
  go_wp2_with fail
  refine HC.out.mono ?_
  rintro e w1 ⟨rfl, hR, hO⟩
  obtain ⟨n1, n2, n3, n4, n5⟩ := head_off H.out.head H.out.row H.out.nums
  have HR : Hid (RowAt w1 p b n (putB B a k true)) := hR
  have HH : Hid (w1.heap[q]? = some (.cells #[.pointer (some ⟨p, 0, none⟩), .slice (some ⟨f, 0, none⟩) (wn n) cap] 101 (0, 0))) := (hO.heap H.out.q_lt n2).trans H.out.head
  have HF : Hid (FreeAt w1 f n B) := H.out.nums.same (hO.heap H.out.nums.lt (fun e => n5 e.symm))
  have HO : Hid (Only2 b f w w1) := Only2.ofOne hO
  have HN : Hid (q ≠ f ∧ p ≠ f ∧ b ≠ f) := ⟨n3, n4, n5⟩
  have HP : Hid (1 ≤ n ∧ wn n ≤ cap ∧ cap ≤ maxLen) := ⟨H.out.pos, H.out.room⟩
  have HT : Hid (∀ i, n ≤ i → B i = false) := H.out.row.tail
  clear hR hO n1 n2 n3 n4 n5 hp
  go_wp2
  go_loopw [8] (fun at' wr => ∃ j : Nat, at' = .int .i64 ((a + j : Nat) : Int) ∧ j ≤ k ∧ Hid (RowAt wr p b n (putB B a k true)) ∧ Hid (wr.heap[q]? = some (.cells #[.pointer (some ⟨p, 0, none⟩), .slice (some ⟨f, 0, none⟩) (wn n) cap] 101 (0, 0))) ∧ Hid (FreeAt wr f n (putB B a j true)) ∧ Hid (Only2 b f w wr)) (fun at' _ => a + k - (intOf at').toNat)
  case atStart => exact ⟨0, by go_num, Nat.zero_le _, HR, HH, by unfold Hid; rw [putB_zero]; exact HF.out, HO⟩
  case round =>
    obtain ⟨j, rfl, hjk, hRw, hHw, hFw, hOw⟩ := hrel
    by_cases hlt : j < k
    · have hs : World.cell? wr ⟨q, 1, none⟩ = some (.slice (some ⟨f, 0, none⟩) (wn n) cap) := by rw [cell_of_row wr q _ _ _ _ hHw.out]; rfl
      have hq : ((a + j : Nat) : Int).tdiv 64 = (((a + j) / 64 : Nat) : Int) := Int.ofNat_tdiv (a + j) 64
      have hwl : (a + j) / 64 < wn n := wn_lt (by omega)
      have hcell := hFw.out.c_cell ((a + j) / 64) hwl
      have hfree := hFw.out.c_free ((a + j) / 64)
      have HTj : ∀ i, n ≤ i → putB B a j true i = false := fun i hi => by unfold putB; rw [if_neg (by omega)]; exact HT.out i hi
      have HBj : putB B a j true (a + j) = false := by unfold putB; rw [if_neg (by omega)]; exact HB.out _ (by omega) (by omega)
      have hset := fr_set HTj (show a + j < n by omega) HBj
      rw [putB_more] at hset
      have hle := fr_le (putB B a j true) n ((a + j) / 64)
      have h1 := hset ((a + j) / 64)
      rw [if_pos rfl] at h1
      have HF2 : Hid (∀ x : Nat, fr (putB B a j true) n ((a + j) / 64) = x + 1 → FreeAt (wr.setCell ⟨f, (a + j) / 64, none⟩ (.int .i64 (x : Nat))) f n (putB B a (j + 1) true)) := fun x hx =>
        hFw.out.put _ x hwl (by omega) (fun c hc => by have := hset c; rw [if_neg hc] at this; omega)
      have HR2 : Hid (∀ u, RowAt (wr.setCell ⟨f, (a + j) / 64, none⟩ u) p b n (putB B a k true)) := fun u => hRw.out.same (Below.heap_setCell wr _ u p HN.out.2.1) (Below.heap_setCell wr _ u b HN.out.2.2)
      have HH2 : Hid (∀ u, (wr.setCell ⟨f, (a + j) / 64, none⟩ u).heap[q]? = some (.cells #[.pointer (some ⟨p, 0, none⟩), .slice (some ⟨f, 0, none⟩) (wn n) cap] 101 (0, 0))) := fun u => (Below.heap_setCell wr _ u q HN.out.1).trans hHw.out
      have HO2 : Hid (∀ u, Only2 b f w (wr.setCell ⟨f, (a + j) / 64, none⟩ u)) := fun u => hOw.out.setCell _ u
      obtain ⟨x, hx⟩ : ∃ x, fr (putB B a j true) n ((a + j) / 64) = x + 1 := ⟨fr (putB B a (j + 1) true) n ((a + j) / 64), h1⟩
      have HF3 := HF2.out x hx
      have HF4 : Hid (FreeAt (wr.setCell ⟨f, (a + j) / 64, none⟩ (.int .i64 (x : Nat))) f n (putB B a (j + 1) true)) := HF3
      rw [hx] at hcell hle
      have HJ : Hid (∀ y, a + j = y → y + 1 = a + (j + 1)) := fun y hy => by omega
      have hq16 : (a + j) / 64 < 65536 := by omega
      clear h1 hset HF2 HF3 hx HTj HBj
      have hxk : a + j < a + k := by omega
      generalize hy : a + j = y at *
      have HY : Hid (a + j = y) := hy
      generalize y / 64 = d at *
      clear hy
      go_wp2
      go_roundw
      case rel => exact ⟨j + 1, by rw [← HJ.out _ rfl]; go_num, by omega, HR2.out _, HH2.out _, by unfold Hid; simpa using HF4.out, HO2.out _⟩
      case measure => simp [intOf]; omega
    · obtain rfl : j = k := by omega
      go_wp2
      go_ret
      exact ⟨rfl, ⟨hHw.out, hRw.out, hFw.out, HP.out.1, HP.out.2⟩, hOw.out⟩
theorem take_taken (w : World) (q p b f cap n : Nat) (B : Nat → Bool) (s : Nat) (h : BoardAt w q p b f cap n B) (ht : Steps w) (hs : s < n) (hB : B s = true) :
    Calls Tryz.prog 57 #[.pointer (some ⟨q, 0, none⟩), .int .i64 (s : Nat), .int .i64 1] w fun x w' => x = .returned (.int .i64 2) ∧ w' = w := by
  have hp := h.p_cell
  have HC : Hid (Calls Tryz.prog 71 #[.pointer (some ⟨p, 0, none⟩), .int .i64 (s : Nat), .int .i64 1] w fun x w' => x = .returned (.int .i64 2) ∧ w' = w) := set_no w p b n B s 1 s h.row ht (by omega) (Nat.le_refl _) (by omega) hB
  clear h ht
  go_enter Tryz.func57, Tryz.ntmps57
  go_wp2_with fail
  refine HC.out.mono ?_
  rintro e w1 ⟨rfl, rfl⟩
  go_wp2
  go_ret
  exact ⟨rfl, rfl⟩
theorem take_off (w : World) (q p b f cap n : Nat) (B : Nat → Bool) (a : Int) (h : BoardAt w q p b f cap n B) (hm : -9223372036854775808 ≤ a) (hx : a ≤ 9223372036854775807) (ha : a < 0 ∨ (n : Int) ≤ a) :
    Calls Tryz.prog 57 #[.pointer (some ⟨q, 0, none⟩), .int .i64 a, .int .i64 1] w fun x w' => x = .returned (.int .i64 2) ∧ w' = w := by
  have hp := h.p_cell
  have HC : Hid (Calls Tryz.prog 71 #[.pointer (some ⟨p, 0, none⟩), .int .i64 a, .int .i64 1] w fun x w' => x = .returned (.int .i64 2) ∧ w' = w) := set_off w p b n B a h.row hm hx ha
  clear h ha
  go_enter Tryz.func57, Tryz.ntmps57
  go_wp2_with fail
  refine HC.out.mono ?_
  rintro e w1 ⟨rfl, rfl⟩
  go_wp2
  go_ret
  exact ⟨rfl, rfl⟩
set_option maxRecDepth 20000 in
set_option maxHeartbeats 1000000 in
theorem give_ok (w : World) (q p b f cap n : Nat) (B : Nat → Bool) (s : Nat) (h : BoardAt w q p b f cap n B) (ht : Steps w) (hs : s < n) (hB : B s = true) :
    Calls Tryz.prog 63 #[.pointer (some ⟨q, 0, none⟩), .int .i64 (s : Nat)] w fun x w' => x = .returned (.int .i64 0) ∧ BoardAt w' q p b f cap n (putB B s 1 false) ∧ Only2 b f w w' := by
  have hp := h.p_cell
  have hn := h.row.small
  have H : Hid (BoardAt w q p b f cap n B) := h
  have HC : Hid (Calls Tryz.prog 74 #[.pointer (some ⟨p, 0, none⟩), .int .i64 (s : Nat), .int .i64 1] w fun x w' => x = .returned (.int .i64 0) ∧ RowAt w' p b n (putB B s 1 false) ∧ Only b w w') := clear_ok w p b n B s 1 h.row ht (by omega) (fun i h1 h2 => by rw [show i = s by omega]; exact hB)
  clear h ht
  go_enter Tryz.func63, Tryz.ntmps63
  go_wp2_with fail
  refine HC.out.mono ?_
  rintro e w1 ⟨rfl, hR, hO⟩
  obtain ⟨n1, n2, n3, n4, n5⟩ := head_off H.out.head H.out.row H.out.nums
  have HH : w1.heap[q]? = some (.cells #[.pointer (some ⟨p, 0, none⟩), .slice (some ⟨f, 0, none⟩) (wn n) cap] 101 (0, 0)) := (hO.heap H.out.q_lt n2).trans H.out.head
  have HF : FreeAt w1 f n B := H.out.nums.same (hO.heap H.out.nums.lt (fun e => n5 e.symm))
  have hsl : World.cell? w1 ⟨q, 1, none⟩ = some (.slice (some ⟨f, 0, none⟩) (wn n) cap) := by rw [cell_of_row w1 q _ _ _ _ HH]; rfl
  have hq : ((s : Nat) : Int).tdiv 64 = ((s / 64 : Nat) : Int) := Int.ofNat_tdiv s 64
  have hwl : s / 64 < wn n := wn_lt hs
  have hcell := HF.c_cell (s / 64) hwl
  have hfree := HF.c_free (s / 64)
  have hset := fr_clear H.out.row.tail hs hB
  have hle := fr_le B n (s / 64)
  have h1 := hset (s / 64)
  rw [if_pos rfl] at h1
  have HB2 : Hid (BoardAt (w1.setCell ⟨f, s / 64, none⟩ (.int .i64 ((fr B n (s / 64) + 1 : Nat) : Int))) q p b f cap n (putB B s 1 false)) :=
    ⟨(Below.heap_setCell w1 _ _ q n3).trans HH, hR.same (Below.heap_setCell w1 _ _ p n4) (Below.heap_setCell w1 _ _ b n5), HF.put _ _ hwl h1 (fun c hc => by have := hset c; rw [if_neg hc] at this; omega), H.out.pos, H.out.room⟩
  have HO2 : Hid (∀ u, Only2 b f w (w1.setCell ⟨f, s / 64, none⟩ u)) := fun u => (Only2.ofOne hO).setCell _ u
  have hq16 : s / 64 < 65536 := by omega
  clear hR hO n1 n2 n3 n4 n5 hp HH HF hset h1 hB
  generalize fr B n (s / 64) = x at *
  generalize s / 64 = d at *
  go_wp2
  go_ret
  exact ⟨rfl, by simpa using HB2.out, HO2.out _⟩
theorem give_free (w : World) (q p b f cap n : Nat) (B : Nat → Bool) (s : Nat) (h : BoardAt w q p b f cap n B) (ht : Steps w) (hs : s < n) (hB : B s = false) :
    Calls Tryz.prog 63 #[.pointer (some ⟨q, 0, none⟩), .int .i64 (s : Nat)] w fun x w' => x = .returned (.int .i64 2) ∧ w' = w := by
  have hp := h.p_cell
  have HC : Hid (Calls Tryz.prog 74 #[.pointer (some ⟨p, 0, none⟩), .int .i64 (s : Nat), .int .i64 1] w fun x w' => x = .returned (.int .i64 2) ∧ w' = w) := clear_no w p b n B s 1 s h.row ht (by omega) (Nat.le_refl _) (by omega) hB
  clear h ht
  go_enter Tryz.func63, Tryz.ntmps63
  go_wp2_with fail
  refine HC.out.mono ?_
  rintro e w1 ⟨rfl, rfl⟩
  go_wp2
  go_ret
  exact ⟨rfl, rfl⟩
theorem give_off (w : World) (q p b f cap n : Nat) (B : Nat → Bool) (a : Int) (h : BoardAt w q p b f cap n B) (hm : -9223372036854775808 ≤ a) (hx : a ≤ 9223372036854775807) (ha : a < 0 ∨ (n : Int) ≤ a) :
    Calls Tryz.prog 63 #[.pointer (some ⟨q, 0, none⟩), .int .i64 a] w fun x w' => x = .returned (.int .i64 2) ∧ w' = w := by
  have hp := h.p_cell
  have HC : Hid (Calls Tryz.prog 74 #[.pointer (some ⟨p, 0, none⟩), .int .i64 a, .int .i64 1] w fun x w' => x = .returned (.int .i64 2) ∧ w' = w) := clear_off w p b n B a h.row hm hx ha
  clear h ha
  go_enter Tryz.func63, Tryz.ntmps63
  go_wp2_with fail
  refine HC.out.mono ?_
  rintro e w1 ⟨rfl, rfl⟩
  go_wp2
  go_ret
  exact ⟨rfl, rfl⟩
end Go.Proofs.YtjhkcdnfnmglhaaGreatDoor

/- Results that lie in cells; numbers that fit an int. Generic. -/
namespace Go.Proofs.YtjhkcdnfnmglhaaGreatDoor
open Go.RowKit

/-- It fits an int. -/
def I64 (z : Int) : Prop := -9223372036854775808 ≤ z ∧ z ≤ 9223372036854775807
theorem below_dr (w : World) (n : Nat) : Below w.heap.size w (w.drewN n) := ⟨rfl, rfl, rfl, Nat.le_refl _, fun _ _ => rfl⟩
theorem below_dr1 (w : World) : Below w.heap.size w w.drew := ⟨rfl, rfl, rfl, Nat.le_refl _, fun _ _ => rfl⟩

/-! ### Results that lie in cells -/
theorem results_cell1 {fn : Func} {t : Tmp} {ty : TypeId} (h : fn.results = #[.cell t ty]) {tmps : Array Value} {P : Program} {w : World} {a : Addr} {v : Value} (h2 : tmps.getD t undef = .pointer (some a)) (hld : (loadVar ty a).run P w = .ok v w) : (results fn tmps).run P w = .ok v w := by
  have h4 : tmps[t]?.getD undef = .pointer (some a) := by rw [← h2]; simp
  simp only [results, h]
  simp [asAddr, hld, h4]
theorem results_cell2 {fn : Func} {t u : Tmp} {ty : TypeId} (h : fn.results = #[.cell t ty, .tmp u]) {tmps : Array Value} {P : Program} {w : World} {a : Addr} {v b : Value} (h2 : tmps.getD t undef = .pointer (some a)) (h3 : tmps.getD u undef = b) (hld : (loadVar ty a).run P w = .ok v w) : (results fn tmps).run P w = .ok (.tuple #[v, b]) w := by
  rw [results_cell_tmp h]
  simp [asAddr, Result.andThen, hld, h2, h3]
end Go.Proofs.YtjhkcdnfnmglhaaGreatDoor

/- Slices of ints, however they came about; appended to a row of the call's own. Generic over the program. -/
namespace Go.Proofs.YtjhkcdnfnmglhaaGreatDoor
open Go.RowKit
set_option linter.unusedVariables false
set_option maxRecDepth 20000

/-- Ints as cells. -/
def nums (zs : List Int) : List Value := zs.map fun z => Value.int .i64 z
theorem nums_length (zs : List Int) : (nums zs).length = zs.length := by simp [nums]
theorem nums_append (a b : List Int) : nums (a ++ b) = nums a ++ nums b := by simp [nums]
theorem nums_one (zs : List Int) : ∀ v ∈ nums zs, v.oneCell' = true := by
  intro u hu
  simp only [nums, List.mem_map] at hu
  obtain ⟨z, _, rfl⟩ := hu
  rfl
theorem nums_get (zs : List Int) (j : Nat) (h : j < zs.length) : (nums zs)[j]? = some (Value.int .i64 (zs[j]?.getD 0)) := by
  simp [nums, List.getElem?_eq_getElem h]

/-- The value is a slice whose elements are these ints. -/
def Nums (w : World) (v : Value) (zs : List Int) : Prop :=
  (∀ z ∈ zs, I64 z) ∧ zs.length ≤ maxLen ∧ ∃ a cap, v = .slice a zs.length cap ∧ zs.length ≤ cap ∧ cap ≤ maxLen ∧
    ((a = none ∧ cap = 0) ∨ ∃ x, a = some x ∧ (zs = [] ∨ ∃ b off, x = ⟨b, off, none⟩ ∧ b < w.heap.size ∧ ∀ j, j < zs.length → w.cell? ⟨b, off + j, none⟩ = some (.int .i64 (zs[j]?.getD 0))))
theorem Nums.nil (w : World) : Nums w (.slice none 0 0) [] := ⟨by simp, by simp, none, 0, rfl, Nat.le_refl _, by simp, .inl ⟨rfl, rfl⟩⟩
theorem Nums.shape {w : World} {v : Value} {zs : List Int} (h : Nums w v zs) : ∃ a cap, v = .slice a zs.length cap := by
  obtain ⟨_, _, a, cap, e, _⟩ := h
  exact ⟨a, cap, e⟩
/-- Its block is as it was. -/
theorem Nums.spared {w w' : World} {v : Value} {zs : List Int} (h : Nums w v zs) (hs : w.heap.size ≤ w'.heap.size) (hg : ∀ g, v.ownBlock = some g → g < w.heap.size → w'.heap[g]? = w.heap[g]?) : Nums w' v zs := by
  obtain ⟨h1, h2, a, cap, rfl, h3, h4, h5⟩ := h
  refine ⟨h1, h2, a, cap, rfl, h3, h4, ?_⟩
  rcases h5 with h5 | ⟨x, rfl, h5⟩
  · exact .inl h5
  · refine .inr ⟨x, rfl, ?_⟩
    rcases h5 with h5 | ⟨b, off, rfl, hlt, hc⟩
    · exact .inl h5
    · exact .inr ⟨b, off, rfl, Nat.lt_of_lt_of_le hlt hs, fun j hj => (World.cell?_of_block (a := ⟨b, off + j, none⟩) (hg b rfl hlt)).trans (hc j hj)⟩
theorem Nums.kept {w w' : World} {v : Value} {zs : List Int} (h : Nums w v zs) (hb : Below w.heap.size w w') : Nums w' v zs := h.spared hb.size fun g _ hg => hb.block g hg
theorem Nums.alloc {w : World} {v : Value} {zs : List Int} (h : Nums w v zs) (o : Obj) : Nums (w.alloc o) v zs := h.kept ((Below.refl _ _).alloc (Nat.le_refl _) _)
theorem Nums.lenEq {w : World} {a : Option Addr} {n cap : Nat} {zs : List Int} (h : Nums w (.slice a n cap) zs) : zs.length = n := by
  obtain ⟨_, _, a', cap', e, _⟩ := h
  simp only [Value.slice.injEq] at e
  exact e.2.1.symm
theorem Nums.capLe {w : World} {a : Option Addr} {n cap : Nat} {zs : List Int} (h : Nums w (.slice a n cap) zs) : n ≤ cap ∧ cap ≤ maxLen := by
  obtain ⟨_, _, a', cap', e, h3, h4, _⟩ := h
  simp only [Value.slice.injEq] at e
  obtain ⟨rfl, rfl, rfl⟩ := e
  exact ⟨h3, h4⟩
theorem Nums.addr {w : World} {a : Option Addr} {n cap : Nat} {zs : List Int} (h : Nums w (.slice a n cap) zs) (h0 : 0 < n) : ∃ b off, a = some ⟨b, off, none⟩ ∧ b < w.heap.size ∧ ∀ j, j < n → w.cell? ⟨b, off + j, none⟩ = some (.int .i64 (zs[j]?.getD 0)) := by
  obtain ⟨_, _, a', cap', e, h3, h4, h5⟩ := h
  simp only [Value.slice.injEq] at e
  obtain ⟨rfl, rfl, rfl⟩ := e
  rcases h5 with ⟨_, rfl⟩ | ⟨x, rfl, rfl | ⟨b, off, rfl, hlt, hc⟩⟩
  · omega
  · simp at h0
  · exact ⟨b, off, rfl, hlt, hc⟩
theorem Nums.small {w : World} {v : Value} {zs : List Int} (h : Nums w v zs) (j : Nat) : I64 (zs[j]?.getD 0) := by
  by_cases hj : j < zs.length
  · rw [List.getElem?_eq_getElem hj]; exact h.1 _ (List.getElem_mem hj)
  · rw [List.getElem?_eq_none (by omega)]; exact ⟨by decide, by decide⟩
/-- 'x[:n]'. -/
theorem Nums.front {w : World} {a : Option Addr} {l cap n : Nat} {zs : List Int} (h : Nums w (.slice a l cap) zs) (hn : n ≤ l) : Nums w (.slice a n cap) (zs.take n) := by
  have hl := h.lenEq
  have hc := h.capLe
  have hlen : (zs.take n).length = n := by rw [List.length_take]; omega
  refine ⟨fun z hz => h.1 z (List.mem_of_mem_take hz), by omega, a, cap, by rw [hlen], by omega, hc.2, ?_⟩
  by_cases h0 : 0 < l
  · obtain ⟨b, off, rfl, hlt, hcell⟩ := h.addr h0
    refine .inr ⟨_, rfl, .inr ⟨b, off, rfl, hlt, fun j hj => ?_⟩⟩
    rw [hlen] at hj
    rw [hcell j (by omega), List.getElem?_take_of_lt hj]
  · obtain ⟨_, _, a', cap', e, h3, h4, h5⟩ := h
    simp only [Value.slice.injEq] at e
    obtain ⟨rfl, rfl, rfl⟩ := e
    rcases h5 with h5 | ⟨x, rfl, h5⟩
    · exact .inl h5
    · refine .inr ⟨x, rfl, .inl ?_⟩
      exact List.eq_nil_of_length_eq_zero (by omega)
/-- 'x[n:]', of a row with an address. -/
theorem Nums.back {w : World} {b off l cap n cap' : Nat} {zs : List Int} (h : Nums w (.slice (some ⟨b, off, none⟩) l cap) zs) (hn : n < l) (hc' : l - n ≤ cap') (hc2 : cap' ≤ maxLen) : Nums w (.slice (some ⟨b, off + n, none⟩) (l - n) cap') (zs.drop n) := by
  have hl := h.lenEq
  have hlen : (zs.drop n).length = l - n := by rw [List.length_drop]; omega
  obtain ⟨b', off', e, hlt, hcell⟩ := h.addr (by omega)
  simp only [Option.some.injEq, Addr.mk.injEq, and_true] at e
  obtain ⟨rfl, rfl⟩ := e
  refine ⟨fun z hz => h.1 z (List.mem_of_mem_drop hz), by omega, _, cap', by rw [hlen], by omega, hc2, .inr ⟨_, rfl, .inr ⟨b, off + n, rfl, hlt, fun j hj => ?_⟩⟩⟩
  rw [hlen] at hj
  rw [show off + n + j = off + (n + j) by omega, hcell (n + j) (by omega), List.getElem?_drop]
/-- Where its cells lie. -/
theorem Nums.src {w : World} {v : Value} {zs : List Int} (h : Nums w v zs) : ∃ sp cap, v = .slice sp zs.length cap ∧ (0 < zs.length → ∃ ad, sp = some ad ∧ ∀ j u, (nums zs)[j]? = some u → w.cell? (ad.add j) = some u) := by
  obtain ⟨h1, h2, ad, cap, rfl, h3, h4, h5⟩ := h
  refine ⟨ad, cap, rfl, fun hp => ?_⟩
  rcases h5 with ⟨_, rfl⟩ | ⟨x, rfl, rfl | ⟨b, off, rfl, hlt, hc⟩⟩
  · omega
  · simp at hp
  · refine ⟨_, rfl, fun j u hu => ?_⟩
    have hj : j < zs.length := by have := (List.getElem?_eq_some_iff.1 hu).1; rwa [nums_length] at this
    rw [nums_get zs j hj] at hu
    have e1 : (⟨b, off, none⟩ : Addr).add j = ⟨b, off + j, none⟩ := by unfold Addr.add; split <;> simp_all
    rw [e1, hc j hj, hu]
/-- A row that the call owns. -/
theorem Nums.ofOwn {w : World} {base : Nat} {e : TypeId} {v : Value} {n : Nat} {zs : List Int} (h : w.ownsRow base e 1 v n (nums zs)) (hz : ∀ z ∈ zs, I64 z) : Nums w v zs := by
  have h1 := h.1
  simp [nums_length] at h1
  rcases h.2 with ⟨rfl, h0⟩ | ⟨g, cap, cur, rfl, hb, hg, hn, hm, hs, ht⟩
  · have : zs = [] := List.eq_nil_of_length_eq_zero (by omega)
    subst this
    exact Nums.nil w
  · refine ⟨hz, by omega, _, cap, by rw [h1], by omega, hm, .inr ⟨_, rfl, .inr ⟨g, 0, rfl, (Array.getElem?_eq_some_iff.1 hg).1, ?_⟩⟩⟩
    intro j hj
    have := h.cells (g := g) rfl j (.int .i64 (zs[j]?.getD 0)) (nums_get zs j hj)
    rw [addr_add] at this
    rw [Nat.zero_add]; exact this
/-- A row that came in. -/
theorem Nums.ofRow {w : World} {a : Option Addr} {len cap : Nat} {xs : List Int} (h : IsRow .i64 w a len cap xs) : Nums w (.slice a len cap) (xs.take len) := by
  rcases h with ⟨rfl, rfl, rfl, rfl⟩ | ⟨x, rfl, hl, hm, hz, hc, hw⟩
  · exact Nums.nil w
  · have hlen : (xs.take len).length = len := by rw [List.length_take]; omega
    have hwf : ∀ z ∈ xs, I64 z := fun z hz' => by
      have := hw z hz'
      simpa [Lit.wf, IntKind.min, IntKind.max, IntKind.signed, IntKind.bits, I64] using this
    refine ⟨fun z hz' => hwf z (List.mem_of_mem_take hz'), by omega, _, cap, by rw [hlen], by omega, hm, .inr ⟨x, rfl, ?_⟩⟩
    by_cases h0 : len = 0
    · left; subst h0; rfl
    · right
      obtain ⟨b, off, rfl, hc'⟩ := ints_at hc (by omega)
      refine ⟨b, off, rfl, cell_lt (hc' 0 (by omega)), fun j hj => ?_⟩
      rw [hlen] at hj
      rw [hc' j (by omega), List.getElem?_take_of_lt hj, List.getD_eq_getElem?_getD]
/-- A row that a literal makes. -/
theorem Nums.one {w : World} {z : Int} {e : TypeId} (hz : I64 z) : Nums (w.alloc (.cells #[.int .i64 z] e)) (.slice (some ⟨w.heap.size, 0, none⟩) 1 1) [z] := by
  refine ⟨fun y hy => by rw [List.mem_singleton.1 hy]; exact hz, by simp [maxLen], _, 1, rfl, Nat.le_refl _, by simp [maxLen], .inr ⟨_, rfl, .inr ⟨w.heap.size, 0, rfl, by simp, fun j hj => ?_⟩⟩⟩
  have hj0 : j = 0 := by simpa using hj
  subst hj0
  exact one_new 0 _ rfl

/-- 'append(own, ints...)'. -/
theorem wpList_append_nums {P : Program} (w : World) {ops : Array Oper} {rest : List Oper} {o : Oper} {a : Act} {Q : Exit → Act → World → Prop} (hgd : o.guard = none) (s x : Operand) (t : TypeId)
    (ho : o.op = .call { callee := .builtin .append, args := #[s, x], argTypes := #[t, t] })
    (base : Nat) (e : TypeId) (i : TypeInfo) (ht : P.underlying t = some (.slice e)) (hi : P.info? e = some i) (hz : i.zero = some (.int .i64 0)) (hsize : i.size = 1) (hby : i.bytes = 8)
    (v : Value) (n : Nat) (xs : List Int) (hs : a.eval s = v) (hown : w.ownsRow base e 1 v n (nums xs))
    (y : Value) (zs : List Int) (hx : a.eval x = y) (hsrc : Nums w y zs) (h63 : n + zs.length ≤ 1000000) (hbase : base ≤ w.heap.size)
    (h : ∀ v' w', w'.ownsRow base e 1 v' (n + zs.length) (nums (xs ++ zs)) → w.grownBy w' v.ownBlock → (v'.ownBlock = v.ownBlock ∨ v'.ownBlock = some w.heap.size) → wpList P ops Q rest (a.put o.dst v') w') : wpList P ops Q (o :: rest) a w := by
  have hp := hsrc.src
  obtain ⟨h1, h2, sp, cap, rfl, h3, h4, h5⟩ := hsrc
  obtain ⟨sp', cap', e', hp⟩ := hp
  simp only [Value.slice.injEq] at e'
  obtain ⟨rfl, _, rfl⟩ := e'
  by_cases h0 : zs = []
  · subst h0
    rcases h5 with ⟨rfl, rfl⟩ | ⟨ad, rfl, _⟩
    · refine wpList_append_own_none hgd s x t ho base e i 1 ht hi v n _ hs hown hx ?_
      exact h v w (by simpa using hown) (World.grownBy.refl _ _) (.inl rfl)
    · refine wpList_append_own_at w hgd s x t ho base e i (.int .i64 0) 1 8 ht hi hz hsize hby rfl (by decide) v n _ hs hown ad 0 cap (nums []) hx rfl ?_ ?_ (by unfold maxLen; omega) (by simp at h63; omega) hbase ?_
      · intro j u hu
        simp [nums] at hu
      · intro u hu
        exact nums_one _ u hu
      · intro v' w' hw hg _ hat
        rw [← nums_append] at hw
        exact h v' w' hw hg hat
  · have hl : 0 < zs.length := by
      cases zs with
      | nil => exact absurd rfl h0
      | cons z r => simp
    obtain ⟨ad, rfl, hc⟩ := hp hl
    refine wpList_append_own_at w hgd s x t ho base e i (.int .i64 0) 1 8 ht hi hz hsize hby rfl (by decide) v n _ hs hown ad zs.length cap (nums zs) hx (by rw [nums_length, Nat.mul_one]) hc (nums_one zs) (by unfold maxLen; omega) (by omega) hbase ?_
    intro v' w' hw hg _ hat
    rw [← nums_append] at hw
    exact h v' w' hw hg hat
theorem grewAny {w w' : World} {B n : Nat} {e : TypeId} {v : Value} {xs : List Value} {a : World} (h : Below B a w) (hown : w.ownsRow B e 1 v n xs) (hg : w.grownBy w' v.ownBlock) (hB : B ≤ w.heap.size) : Below B a w' :=
  h.grown hg hB fun j hj => (hown.lt j hj).1
theorem own_sh {w : World} {base n : Nat} {e : TypeId} {v : Value} {xs : List Value} (h : w.ownsRow base e 1 v n xs) : ∃ a c, v = .slice a n c := by
  rcases h.2 with ⟨rfl, rfl⟩ | ⟨g, cap, cur, rfl, _⟩
  · exact ⟨none, 0, rfl⟩
  · exact ⟨_, _, rfl⟩
end Go.Proofs.YtjhkcdnfnmglhaaGreatDoor

/- What is read of a board; Take, Run. -/
namespace Go.Proofs.YtjhkcdnfnmglhaaGreatDoor
open Go.RowKit
set_option linter.unusedVariables false
set_option maxRecDepth 20000

theorem Tryz.infoI64 : (Tryz.prog.info? 3).map (fun i => (i.zero, i.size, i.bytes)) = some (some (.int .i64 0), 1, 8) := by kernel_rfl
set_option maxRecDepth 20000 in
set_option maxHeartbeats 1000000 in
theorem free_any (w : World) (q p b f cap n : Nat) (B : Nat → Bool) (h : BoardAt w q p b f cap n B) :
    Calls Tryz.prog 65 #[.pointer (some ⟨q, 0, none⟩)] w fun x w' => x = .returned (.int .i64 (n - cnt B 0 n : Nat)) ∧ ∃ m, w' = w.drewN m := by
  have hp := h.p_cell
  have hn := h.row.small
  have hc := cnt_le B 0 n
  have HR : Hid (RowAt w p b n B) := h.row
  have HC : Hid (∀ m, Calls Tryz.prog 76 #[.pointer (some ⟨p, 0, none⟩)] (w.drewN m) fun x w' => x = .returned (.int .i64 (cnt B 0 n : Nat)) ∧ w' = w.drewN m) := fun m => count_any _ p b n B (HR.out.drewN m)
  clear h
  generalize hx : cnt B 0 n = x at *
  clear hx
  obtain ⟨y, hy⟩ : ∃ y, y = n - x := ⟨_, rfl⟩
  have HY : Hid (y = n - x) := hy
  have hy2 : (n : Int) - (x : Nat) = (y : Nat) := by omega
  rw [← hy]
  have hyn : y ≤ 65536 := by omega
  clear hy hc
  go_enter Tryz.func65, Tryz.ntmps65
  go_wp2_with fail
  go_quiet (first
    | (go_at_call 75; exact Calls.quiet_of_same (len_any _ p b n B (HR.out.drewN _)))
    | (go_at_call 76; exact Calls.quiet_of_same (HC.out _)))
  go_wp2
  go_ret
  exact ⟨rfl, _, rfl⟩
/-- Of each cluster how many. -/
def frL (B : Nat → Bool) (n k : Nat) : List Int := (List.range k).map fun c => (fr B n c : Int)
theorem frL_length (B : Nat → Bool) (n k : Nat) : (frL B n k).length = k := by simp [frL]
theorem frL_at {B : Nat → Bool} {n k c : Nat} (h : c < k) : (frL B n k)[c]?.getD 0 = (fr B n c : Int) := by simp [frL, h]
theorem frL_small (B : Nat → Bool) (n k : Nat) : ∀ z ∈ frL B n k, I64 z := by
  intro z hz
  simp only [frL, List.mem_map] at hz
  obtain ⟨c, _, rfl⟩ := hz
  have := fr_le B n c
  exact ⟨by omega, by omega⟩
theorem BoardAt.list {w : World} {q p b f cap n : Nat} {B : Nat → Bool} (h : BoardAt w q p b f cap n B) : Nums w (.slice (some ⟨f, 0, none⟩) (wn n) cap) (frL B n (wn n)) := by
  have hr := h.room
  have hl := frL_length B n (wn n)
  refine ⟨frL_small B n _, by omega, _, cap, by rw [hl], by omega, hr.2, .inr ⟨_, rfl, .inr ⟨f, 0, rfl, h.nums.lt, fun j hj => ?_⟩⟩⟩
  rw [hl] at hj
  rw [Nat.zero_add, h.nums.c_cell j hj, frL_at hj]
/-- Which cluster a slot is taken from. -/
def Best (B : Nat → Bool) (n k c : Nat) : Prop := c < k ∧ 0 < fr B n c ∧ (∀ d, d < k → 0 < fr B n d → fr B n c ≤ fr B n d) ∧ ∀ d, d < c → 0 < fr B n d → fr B n c < fr B n d
theorem best_new {B : Nat → Bool} {n k : Nat} (h : ∀ d, d < k → fr B n d = 0) (hp : 0 < fr B n k) : Best B n (k + 1) k :=
  ⟨by omega, hp, fun d hd h0 => by
    by_cases e : d = k
    · rw [e]; exact Nat.le_refl _
    · have := h d (by omega); omega, fun d hd h0 => by have := h d hd; omega⟩
theorem best_less {B : Nat → Bool} {n k c : Nat} (h : Best B n k c) (hp : 0 < fr B n k) (hl : fr B n k < fr B n c) : Best B n (k + 1) k :=
  ⟨by omega, hp, fun d hd h0 => by
    by_cases e : d = k
    · rw [e]; exact Nat.le_refl _
    · have := h.2.2.1 d (by omega) h0; omega, fun d hd h0 => by have := h.2.2.1 d hd h0; omega⟩
theorem best_keep {B : Nat → Bool} {n k c : Nat} (h : Best B n k c) (hl : 0 < fr B n k → fr B n c ≤ fr B n k) : Best B n (k + 1) c :=
  ⟨by have := h.1; omega, h.2.1, fun d hd h0 => by
    by_cases e : d = k
    · rw [e] at h0 ⊢; exact hl h0
    · exact h.2.2.1 d (by omega) h0, h.2.2.2⟩
theorem none_keep {B : Nat → Bool} {n k : Nat} (h : ∀ d, d < k → fr B n d = 0) (hp : fr B n k = 0) : ∀ d, d < k + 1 → fr B n d = 0 := fun d hd => by
  by_cases e : d = k
  · rw [e]; exact hp
  · exact h d (by omega)
set_option maxRecDepth 20000 in
set_option maxHeartbeats 1000000 in
theorem fullest_any (w : World) (q p b f cap n : Nat) (B : Nat → Bool) (h : BoardAt w q p b f cap n B) :
    Calls Tryz.prog 60 #[.pointer (some ⟨q, 0, none⟩)] w fun x w' => ((∃ c : Nat, x = .returned (.int .i64 (c : Nat)) ∧ Best B n (wn n) c) ∨ (x = .returned (.int .i64 (-1)) ∧ ∀ d, d < wn n → fr B n d = 0)) ∧ w' = w := by
  have hf := h.f_cell
  have hs := wn_le n h.row.small
  have HC : Hid (∀ c, c < wn n → w.cell? ⟨f, c, none⟩ = some (.int .i64 (fr B n c : Nat))) := h.nums.c_cell
  clear h
  generalize hm : wn n = m at *
  clear hm
  go_enter Tryz.func60, Tryz.ntmps60
  go_wp2
  go_loop [3, 11] (fun bt i => ∃ k : Nat, i = .int .i64 (k : Nat) ∧ k ≤ m ∧ ((∃ c : Nat, bt = .int .i64 (c : Nat) ∧ Hid (Best B n k c)) ∨ (bt = .int .i64 (-1) ∧ Hid (∀ d, d < k → fr B n d = 0)))) (fun _ i => m - (intOf i).toNat)
  case atStart => exact ⟨0, rfl, Nat.zero_le _, .inr ⟨rfl, fun d hd => absurd hd (by omega)⟩⟩
  case round =>
    obtain ⟨k, rfl, hk, hrel⟩ := hrel
    by_cases hlt : k < m
    · have hc := HC.out k hlt
      have hle := fr_le B n k
      rcases hrel with ⟨c, rfl, hB⟩ | ⟨rfl, hN⟩
      · have hck := hB.out.1
        have hcc := HC.out c (by omega)
        have hlc := fr_le B n c
        have H1 : Hid (0 < fr B n k → fr B n k < fr B n c → Best B n (k + 1) k) := best_less hB.out
        have H2 : Hid ((0 < fr B n k → fr B n c ≤ fr B n k) → Best B n (k + 1) c) := best_keep hB.out
        generalize fr B n k = x at *
        generalize fr B n c = y at *
        by_cases h0 : 0 < x
        · by_cases hxy : x < y
          · have H3 : Hid (Best B n (k + 1) k) := H1.out h0 hxy
            clear H1 H2
            go_wp2
            go_round
            case rel => exact ⟨k + 1, by go_num, by omega, .inl ⟨k, rfl, H3⟩⟩
            case measure => simp [intOf]; omega
          · have H3 : Hid (Best B n (k + 1) c) := H2.out fun _ => by omega
            clear H1 H2
            go_wp2
            go_round
            case rel => exact ⟨k + 1, by go_num, by omega, .inl ⟨c, rfl, H3⟩⟩
            case measure => simp [intOf]; omega
        · have H3 : Hid (Best B n (k + 1) c) := H2.out fun h => absurd h h0
          clear H1 H2
          go_wp2
          go_round
          case rel => exact ⟨k + 1, by go_num, by omega, .inl ⟨c, rfl, H3⟩⟩
          case measure => simp [intOf]; omega
      · have H1 : Hid (0 < fr B n k → Best B n (k + 1) k) := best_new hN.out
        have H2 : Hid (fr B n k = 0 → ∀ d, d < k + 1 → fr B n d = 0) := none_keep hN.out
        generalize fr B n k = x at *
        by_cases h0 : 0 < x
        · have H3 : Hid (Best B n (k + 1) k) := H1.out h0
          clear H1 H2
          go_wp2
          go_round
          case rel => exact ⟨k + 1, by go_num, by omega, .inl ⟨k, rfl, H3⟩⟩
          case measure => simp [intOf]; omega
        · have H3 : Hid (∀ d, d < k + 1 → fr B n d = 0) := H2.out (by omega)
          clear H1 H2
          go_wp2
          go_round
          case rel => exact ⟨k + 1, by go_num, by omega, .inr ⟨rfl, H3⟩⟩
          case measure => simp [intOf]; omega
    · obtain rfl : k = m := by omega
      rcases hrel with ⟨c, rfl, hB⟩ | ⟨rfl, hN⟩
      · go_wp2
        go_ret
        exact ⟨.inl ⟨c, rfl, hB.out⟩, rfl⟩
      · go_wp2
        go_ret
        exact ⟨.inr ⟨rfl, hN.out⟩, rfl⟩

set_option maxRecDepth 20000 in
set_option maxHeartbeats 1000000 in
theorem take_any (w : World) (q p b f cap n : Nat) (B : Nat → Bool) (h : BoardAt w q p b f cap n B) (ht : Steps w) :
    Calls Tryz.prog 33 #[.pointer (some ⟨q, 0, none⟩)] w fun x w' => (∃ s : Nat, x = .returned (.tuple #[.int .i64 (s : Nat), .int .i64 0]) ∧ IsTake B n s ∧ BoardAt w' q p b f cap n (putB B s 1 true) ∧ Only2 b f w w') ∨ (x = .returned (.tuple #[.int .i64 0, .int .i64 12]) ∧ (∀ i, i < n → B i = true) ∧ w' = w) := by
  have hp := h.p_cell
  have hn := h.row.small
  have H : Hid (BoardAt w q p b f cap n B) := h
  have HT : Hid (Steps w) := ht
  have HF : Hid (Calls Tryz.prog 60 #[.pointer (some ⟨q, 0, none⟩)] w fun x w' => ((∃ c : Nat, x = .returned (.int .i64 (c : Nat)) ∧ Best B n (wn n) c) ∨ (x = .returned (.int .i64 (-1)) ∧ ∀ d, d < wn n → fr B n d = 0)) ∧ w' = w) := fullest_any w q p b f cap n B h
  clear h ht
  go_enter Tryz.func33, Tryz.ntmps33
  go_wp2_with fail
  refine HF.out.mono ?_
  rintro e w' ⟨⟨c, rfl, hB⟩ | ⟨rfl, hN⟩, rfl⟩
  · obtain ⟨s, hs1, hs2, hs3, hs4, hs5⟩ := fr_first hB.2.1
    have hsc : s / 64 = c := by omega
    have HI : Hid (IsTake B n s) := ⟨hs3, hs4, by rw [hsc]; exact hs5, by rw [hsc]; exact hB.2.2.1, by rw [hsc]; exact hB.2.2.2⟩
    have HS : Hid (∀ i, 64 * c ≤ i → i < s → B i = true) := hs5
    have HS2 : Hid (B s = false) := hs4
    have hcb : c < 2048 := by have := hB.1; have := wn_le n hn; omega
    have HH : Hid (∀ i : Nat, i < n → Calls Tryz.prog 61 #[.pointer (some ⟨p, 0, none⟩), .int .i64 (i : Nat)] w' fun x w2 => x = .returned (.bool (B i)) ∧ w2 = w') := fun i hi => has_any w' p b n B i H.out.row hi
    have HK : Hid (Calls Tryz.prog 57 #[.pointer (some ⟨q, 0, none⟩), .int .i64 (s : Nat), .int .i64 1] w' fun x w2 => x = .returned (.int .i64 0) ∧ BoardAt w2 q p b f cap n (putB B s 1 true) ∧ Only2 b f w' w2) := take_ok w' q p b f cap n B s 1 H.out HT.out (by omega) (fun i h1 h2 => by rw [show i = s by omega]; exact HS2.out)
    clear hB hs4 hs5 hsc HF
    go_wp2
    go_loop [5] (fun sl => ∃ k : Nat, sl = .int .i64 (k : Nat) ∧ 64 * c ≤ k ∧ k ≤ s) (fun sl => s - (intOf sl).toNat)
    case atStart => exact ⟨64 * c, by go_num, Nat.le_refl _, hs1⟩
    case round =>
      obtain ⟨k, rfl, hk1, hk2⟩ := hrel
      go_wp2_with fail
      refine (HH.out k (by omega)).mono ?_
      rintro e w2 ⟨rfl, rfl⟩
      by_cases hks : k < s
      · rw [HS.out k hk1 hks]
        go_wp2
        go_round
        case rel => exact ⟨k + 1, by go_num, by omega, by omega⟩
        case measure => simp [intOf]; omega
      · obtain rfl : k = s := by omega
        rw [HS2.out]
        go_wp2_with fail
        refine HK.out.mono ?_
        rintro e w3 ⟨rfl, h1, h2⟩
        have H1 : Hid (BoardAt w3 q p b f cap n (putB B k 1 true)) := h1
        have H2 : Hid (Only2 b f w2 w3) := h2
        clear h1 h2
        go_wp2
        go_ret2
        exact .inl ⟨k, rfl, HI.out, H1.out, H2.out⟩
  · have HA : Hid (∀ i, i < n → B i = true) := fr_full H.out.row.tail hN
    clear hN
    go_wp2
    go_ret2
    exact .inr ⟨rfl, HA.out, rfl⟩

end Go.Proofs.YtjhkcdnfnmglhaaGreatDoor

/- What is given; what was given is taken again. -/
namespace Go.Proofs.YtjhkcdnfnmglhaaGreatDoor
open Go.RowKit
set_option linter.unusedVariables false
set_option maxRecDepth 20000

theorem Nums.only2 {w w' : World} {v : Value} {zs : List Int} {b f : Nat} (h : Nums w v zs) (ho : Only2 b f w w') (hb : v.ownBlock ≠ some b) (hf : v.ownBlock ≠ some f) : Nums w' v zs :=
  h.spared ho.size fun g hg hlt => ho.heap hlt (fun e => hb (e ▸ hg)) (fun e => hf (e ▸ hg))
theorem giveB_tail {B : Nat → Bool} {n : Nat} (zs : List Int) (ht : ∀ i, n ≤ i → B i = false) : ∀ i, n ≤ i → giveB B zs i = false := fun i hi => by unfold giveB; rw [ht i hi]; rfl

set_option maxRecDepth 20000 in
set_option maxHeartbeats 1000000 in
theorem takeAgain_any (w : World) (q p b f cap n : Nat) (B : Nat → Bool) (zs : List Int) (j c : Nat) (g off : Nat) (h : BoardAt w q p b f cap n (giveB B (zs.take j))) (ht : Steps w) (hj : j ≤ zs.length)
    (hg : GoodG n B (zs.take j)) (hv : Nums w (.slice (some ⟨g, off, none⟩) j c) (zs.take j)) (hgb : g ≠ b) (hgf : g ≠ f) (h0 : 0 < b ∧ 0 < f) :
    Calls Tryz.prog 64 #[.pointer (some ⟨q, 0, none⟩), .slice (some ⟨g, off, none⟩) j c] w fun x w' => x = .returned (.tuple #[]) ∧ BoardAt w' q p b f cap n B ∧ Only2 b f w w' := by
  have H : Hid (BoardAt w q p b f cap n (giveB B (zs.take j))) := h
  have HT : Hid (Steps w) := ht
  have HG : Hid (GoodG n B (zs.take j)) := hg
  have HV : Hid (Nums w (.slice (some ⟨g, off, none⟩) j c) (zs.take j)) := hv
  have HJ : Hid (j ≤ zs.length) := hj
  have hn := h.row.small
  have hjm : j ≤ 9223372036854775807 := by have := hv.capLe; unfold maxLen at this; omega
  clear h ht hg hv hj
  go_enter Tryz.func64, Tryz.ntmps64
  go_wp2
  go_loopw [8] (fun i wr => ∃ k : Nat, i = .int .i64 (k : Nat) ∧ k ≤ j ∧ Hid (BoardAt wr q p b f cap n (giveB B ((zs.take j).drop k))) ∧ Hid (Only2 b f w wr)) (fun i _ => j - (intOf i).toNat)
  case atStart => exact ⟨0, rfl, Nat.zero_le _, by rw [List.drop_zero]; exact H, Only2.refl _ _ _⟩
  case round =>
    obtain ⟨k, rfl, hk, hR, hO⟩ := hrel
    by_cases hlt : k < j
    · have HVr : Nums wr (.slice (some ⟨g, off, none⟩) j c) (zs.take j) := HV.out.only2 hO.out (by simp [Value.ownBlock, hgb]) (by simp [Value.ownBlock, hgf])
      obtain ⟨g', off', e, -, hcell⟩ := HVr.addr (by omega)
      simp only [Option.some.injEq, Addr.mk.injEq, and_true] at e
      obtain ⟨rfl, rfl⟩ := e
      have hc := hcell k hlt
      obtain ⟨z, hz⟩ : ∃ z, z = (zs.take j)[k]?.getD 0 := ⟨_, rfl⟩
      have hz2 : zs[k]?.getD 0 = z := by rw [hz, List.getElem?_take_of_lt hlt]
      rw [← hz] at hc
      obtain ⟨s, hs⟩ : ∃ s : Nat, z = (s : Int) := by
        have hl : k < (zs.take j).length := by rw [List.length_take]; have := HJ.out; omega
        obtain ⟨s, h1, _⟩ := HG.out.2 (zs.take j)[k] (List.getElem_mem hl)
        exact ⟨s, by rw [hz, List.getElem?_eq_getElem hl]; exact h1⟩
      subst hs
      obtain ⟨h1, h2, h3⟩ := again_step HG.out HJ.out hlt hz2
      have HTr : Steps wr := HT.out.only2 hO.out h0.1 h0.2
      have HK : Hid (Calls Tryz.prog 57 #[.pointer (some ⟨q, 0, none⟩), .int .i64 (s : Nat), .int .i64 1] wr fun x w' => x = .returned (.int .i64 0) ∧ BoardAt w' q p b f cap n (giveB B ((zs.take j).drop (k + 1))) ∧ Only2 b f wr w') := by
        have := take_ok wr q p b f cap n _ s 1 hR.out HTr (by omega) (fun i a1 a2 => by rw [show i = s by omega]; exact h2)
        rwa [h3] at this
      clear HVr hcell hz hz2 h2 h3 HTr
      go_wp2_with fail
      refine HK.out.mono ?_
      rintro e w2 ⟨rfl, a1, a2⟩
      have A1 : Hid (BoardAt w2 q p b f cap n (giveB B ((zs.take j).drop (k + 1)))) := a1
      have A2 : Hid (Only2 b f w w2) := hO.out.trans a2
      clear a1 a2
      go_wp2
      go_roundw
      case rel => exact ⟨k + 1, by go_num, by omega, A1, A2⟩
      case measure => simp [intOf]; omega
    · obtain rfl : k = j := by omega
      have HE : Hid (BoardAt wr q p b f cap n B) := by
        have := hR.out
        rwa [again_end B zs k HJ.out] at this
      go_wp2
      go_end0
      exact ⟨rfl, HE.out, hO.out⟩

/-- What Give answers, and leaves. -/
def GiveIs (w : World) (q p b f cap n : Nat) (B : Nat → Bool) (zs : List Int) (x : Ending) (w' : World) : Prop :=
  ((GoodG n B zs ∧ x = .returned (.int .i64 0) ∧ BoardAt w' q p b f cap n (giveB B zs)) ∨ (¬ GoodG n B zs ∧ x = .returned (.int .i64 2) ∧ BoardAt w' q p b f cap n B)) ∧ Only2 b f w w'
set_option maxRecDepth 20000 in
set_option maxHeartbeats 2000000 in
theorem give_any (w : World) (q p b f cap n : Nat) (B : Nat → Bool) (v : Value) (zs : List Int) (h : BoardAt w q p b f cap n B) (ht : Steps w) (hv : Nums w v zs) (hgb : v.ownBlock ≠ some b) (hgf : v.ownBlock ≠ some f) (h0 : 0 < b ∧ 0 < f) :
    Calls Tryz.prog 40 #[.pointer (some ⟨q, 0, none⟩), v] w fun x w' => GiveIs w q p b f cap n B zs x w' := by
  have H : Hid (BoardAt w q p b f cap n B) := h
  have HT : Hid (Steps w) := ht
  have HV : Hid (Nums w v zs) := hv
  have hn := h.row.small
  obtain ⟨a, c, rfl⟩ := hv.shape
  obtain ⟨L, hL⟩ : ∃ L, L = zs.length := ⟨_, rfl⟩
  rw [← hL] at HV hgb hgf ⊢
  have hcl := HV.out.capLe
  have HL : Hid (L = zs.length) := hL
  have hLm : L ≤ 9223372036854775807 := by have := hcl; unfold maxLen at this; omega
  have hcm : c ≤ 9223372036854775807 := by have := hcl; unfold maxLen at this; omega
  clear h ht hv hL
  go_enter Tryz.func40, Tryz.ntmps40
  go_wp2
  go_loopw [10] (fun i wr => ∃ k : Nat, i = .int .i64 (k : Nat) ∧ k ≤ L ∧ Hid (GoodG n B (zs.take k)) ∧ Hid (BoardAt wr q p b f cap n (giveB B (zs.take k))) ∧ Hid (Only2 b f w wr)) (fun i _ => L - (intOf i).toNat)
  case atStart => exact ⟨0, rfl, Nat.zero_le _, goodG_nil _ _, by rw [List.take_zero, giveB_nil]; exact H, Only2.refl _ _ _⟩
  case round =>
    obtain ⟨k, rfl, hk, hG, hR, hO⟩ := hrel
    by_cases hlt : k < L
    · have HVr : Hid (Nums wr (.slice a L c) zs) := HV.out.only2 hO.out hgb hgf
      obtain ⟨g, off, rfl, -, hcell⟩ := HVr.out.addr (by omega)
      have hc := hcell k hlt
      have HTr : Hid (Steps wr) := HT.out.only2 hO.out h0.1 h0.2
      have hsm := HVr.out.small k
      have hkl : k < zs.length := by have := HL.out; omega
      have HSTOP : Hid (zs[k]?.getD 0 < 0 ∨ (n : Int) ≤ zs[k]?.getD 0 ∨ (∃ s : Nat, zs[k]?.getD 0 = (s : Int) ∧ giveB B (zs.take k) s = false) → ¬ GoodG n B zs) := goodG_stop hkl
      have HSTEP : Hid (∀ s : Nat, zs[k]?.getD 0 = (s : Int) → s < n → giveB B (zs.take k) s = true → GoodG n B (zs.take (k + 1)) ∧ putB (giveB B (zs.take k)) s 1 false = giveB B (zs.take (k + 1))) := fun s => goodG_step hG.out hkl
      clear hcell
      generalize zs[k]?.getD 0 = z at *
      have hz1 := hsm.1
      have hz2 := hsm.2
      have HAG : Hid (Calls Tryz.prog 64 #[.pointer (some ⟨q, 0, none⟩), .slice (some ⟨g, off, none⟩) k c] wr fun x w' => x = .returned (.tuple #[]) ∧ BoardAt w' q p b f cap n B ∧ Only2 b f wr w') :=
        takeAgain_any wr q p b f cap n B zs k c g off hR.out HTr.out (by omega) hG.out (HVr.out.front hk) (by simpa [Value.ownBlock] using hgb) (by simpa [Value.ownBlock] using hgf) h0
      have hkc : (k : Int) ≤ c := by omega
      by_cases hbad : z < 0 ∨ (n : Int) ≤ z ∨ (∃ s : Nat, z = (s : Int) ∧ giveB B (zs.take k) s = false)
      · have HN : Hid (¬ GoodG n B zs) := HSTOP.out hbad
        have HGV : Hid (Calls Tryz.prog 63 #[.pointer (some ⟨q, 0, none⟩), .int .i64 z] wr fun x w' => x = .returned (.int .i64 2) ∧ w' = wr) := by
          by_cases hoff : z < 0 ∨ (n : Int) ≤ z
          · exact give_off wr q p b f cap n _ z hR.out hz1 hz2 hoff
          · rcases hbad with h1 | h1 | ⟨s, rfl, h2⟩
            · exact absurd (.inl h1) hoff
            · exact absurd (.inr h1) hoff
            · exact give_free wr q p b f cap n _ s hR.out HTr.out (by omega) h2
        clear hbad HSTOP HSTEP hkl hsm
        go_wp2_with fail
        refine HGV.out.mono ?_
        rintro e w2 ⟨rfl, rfl⟩
        go_wp2_with fail
        refine HAG.out.mono ?_
        rintro e w3 ⟨rfl, a1, a2⟩
        have A1 : Hid (BoardAt w3 q p b f cap n B) := a1
        have A2 : Hid (Only2 b f w w3) := hO.out.trans a2
        clear a1 a2
        go_wp2
        go_ret
        exact ⟨.inr ⟨HN.out, rfl, A1.out⟩, A2.out⟩
      · obtain ⟨s, hs⟩ : ∃ s : Nat, z = (s : Int) := ⟨z.toNat, by rw [Int.toNat_of_nonneg]; omega⟩
        subst hs
        have hsn : s < n := by omega
        have hB : giveB B (zs.take k) s = true := by
          cases hb : giveB B (zs.take k) s
          · exact absurd (.inr (.inr ⟨s, rfl, hb⟩)) hbad
          · rfl
        obtain ⟨h1, h2⟩ := HSTEP.out s rfl hsn hB
        have H1 : Hid (GoodG n B (zs.take (k + 1))) := h1
        have HGV : Hid (Calls Tryz.prog 63 #[.pointer (some ⟨q, 0, none⟩), .int .i64 (s : Nat)] wr fun x w' => x = .returned (.int .i64 0) ∧ BoardAt w' q p b f cap n (giveB B (zs.take (k + 1))) ∧ Only2 b f wr w') := by
          have := give_ok wr q p b f cap n _ s hR.out HTr.out hsn hB
          rwa [h2] at this
        clear hbad HSTOP HSTEP hkl hsm hB h1 h2 HAG
        go_wp2_with fail
        refine HGV.out.mono ?_
        rintro e w2 ⟨rfl, a1, a2⟩
        have A1 : Hid (BoardAt w2 q p b f cap n (giveB B (zs.take (k + 1)))) := a1
        have A2 : Hid (Only2 b f w w2) := hO.out.trans a2
        clear a1 a2
        go_wp2
        go_roundw
        case rel => exact ⟨k + 1, by go_num, by omega, H1, A1, A2⟩
        case measure => simp [intOf]; omega
    · obtain rfl : k = L := by omega
      have HZ : Hid (zs.take k = zs) := List.take_of_length_le (by have := HL.out; omega)
      have HE : Hid (GoodG n B zs) := by
        have := hG.out
        rwa [HZ.out] at this
      have HE2 : Hid (BoardAt wr q p b f cap n (giveB B zs)) := by
        have := hR.out
        rwa [HZ.out] at this
      go_wp2
      go_ret
      exact ⟨.inl ⟨HE.out, rfl, HE2.out⟩, hO.out⟩
end Go.Proofs.YtjhkcdnfnmglhaaGreatDoor

/- Slices of words of 64 bits, however they came about; appended to a row of the call's own, copied into a row that is known whole. Generic over the program. -/
namespace Go.Proofs.YtjhkcdnfnmglhaaGreatDoor
open Go.RowKit
set_option linter.unusedVariables false
set_option maxRecDepth 20000

/-- Words as cells. -/
def wds (us : List Nat) : List Value := us.map fun u => Value.int .u64 (u : Nat)
theorem wds_length (us : List Nat) : (wds us).length = us.length := by simp [wds]
theorem wds_append (a b : List Nat) : wds (a ++ b) = wds a ++ wds b := by simp [wds]
theorem wds_one (us : List Nat) : ∀ v ∈ wds us, v.oneCell' = true := by
  intro u hu
  simp only [wds, List.mem_map] at hu
  obtain ⟨z, _, rfl⟩ := hu
  rfl
theorem wds_inj {a b : List Nat} (h : wds a = wds b) : a = b := by
  have := congrArg (List.map fun v => (intOf v).toNat) h
  simpa [wds, Function.comp_def, intOf] using this
theorem wds_get (us : List Nat) (j : Nat) (h : j < us.length) : (wds us)[j]? = some (Value.int .u64 (us[j]?.getD 0 : Nat)) := by
  simp [wds, List.getElem?_eq_getElem h]

/-- The value is a slice whose elements are these words. -/
def Wds (w : World) (v : Value) (us : List Nat) : Prop :=
  (∀ z ∈ us, z < 18446744073709551616) ∧ us.length ≤ maxLen ∧ ∃ a cap, v = .slice a us.length cap ∧
    ((a = none ∧ us = [] ∧ cap = 0) ∨ ∃ x, a = some x ∧ (us = [] ∨ ∃ b off, x = ⟨b, off, none⟩ ∧ b < w.heap.size ∧ ∀ j, j < us.length → w.cell? ⟨b, off + j, none⟩ = some (.int .u64 (us[j]?.getD 0 : Nat))))
theorem Wds.kept {w w' : World} {v : Value} {us : List Nat} (h : Wds w v us) (hb : Below w.heap.size w w') : Wds w' v us := by
  obtain ⟨h1, h2, a, cap, rfl, h5⟩ := h
  refine ⟨h1, h2, a, cap, rfl, ?_⟩
  rcases h5 with h5 | ⟨x, rfl, h5⟩
  · exact .inl h5
  · refine .inr ⟨x, rfl, ?_⟩
    rcases h5 with h5 | ⟨b, off, rfl, hlt, hc⟩
    · exact .inl h5
    · exact .inr ⟨b, off, rfl, Nat.lt_of_lt_of_le hlt hb.size, fun j hj => (hb.cell (p := ⟨b, off + j, none⟩) hlt).trans (hc j hj)⟩
theorem Wds.shape {w : World} {v : Value} {us : List Nat} (h : Wds w v us) : ∃ a cap, v = .slice a us.length cap := by
  obtain ⟨_, _, a, cap, e, _⟩ := h
  exact ⟨a, cap, e⟩
theorem Wds.addr {w : World} {a : Option Addr} {n cap : Nat} {us : List Nat} (h : Wds w (.slice a n cap) us) (h0 : 0 < n) : ∃ b off, a = some ⟨b, off, none⟩ ∧ b < w.heap.size ∧ ∀ j, j < n → w.cell? ⟨b, off + j, none⟩ = some (.int .u64 (us[j]?.getD 0 : Nat)) := by
  obtain ⟨_, _, a', cap', e, h5⟩ := h
  simp only [Value.slice.injEq] at e
  obtain ⟨rfl, rfl, rfl⟩ := e
  rcases h5 with ⟨_, rfl, _⟩ | ⟨x, rfl, rfl | ⟨b, off, rfl, hlt, hc⟩⟩
  · simp at h0
  · simp at h0
  · exact ⟨b, off, rfl, hlt, hc⟩
theorem Wds.lenEq {w : World} {a : Option Addr} {n cap : Nat} {us : List Nat} (h : Wds w (.slice a n cap) us) : us.length = n := by
  obtain ⟨_, _, a', cap', e, _⟩ := h
  simp only [Value.slice.injEq] at e
  exact e.2.1.symm
theorem wd_small (l : List Nat) (h : ∀ z ∈ l, z < 18446744073709551616) (k : Nat) : l[k]?.getD 0 < 18446744073709551616 := by
  by_cases hk : k < l.length
  · rw [List.getElem?_eq_getElem hk]; exact h _ (List.getElem_mem hk)
  · rw [List.getElem?_eq_none (by omega)]; decide
/-- Where its cells lie. -/
theorem Wds.src {w : World} {v : Value} {us : List Nat} (h : Wds w v us) : ∃ sp cap, v = .slice sp us.length cap ∧ (0 < us.length → ∃ ad, sp = some ad ∧ ∀ j u, (wds us)[j]? = some u → w.cell? (ad.add j) = some u) := by
  obtain ⟨h1, h2, ad, cap, rfl, h5⟩ := h
  refine ⟨ad, cap, rfl, fun hp => ?_⟩
  rcases h5 with ⟨_, rfl, _⟩ | ⟨x, rfl, rfl | ⟨b, off, rfl, hlt, hc⟩⟩
  · simp at hp
  · simp at hp
  · refine ⟨_, rfl, fun j u hu => ?_⟩
    have hj : j < us.length := by have := (List.getElem?_eq_some_iff.1 hu).1; rwa [wds_length] at this
    rw [wds_get us j hj] at hu
    have e1 : (⟨b, off, none⟩ : Addr).add j = ⟨b, off + j, none⟩ := by unfold Addr.add; split <;> simp_all
    rw [e1, hc j hj, hu]
/-- A row that is known whole. -/
theorem Wds.ofBlock {w : World} {g n cap : Nat} {us : List Nat} {t : TypeId} (hg : w.heap[g]? = some (.cells (wds us).toArray t (0, 0))) (hz : ∀ z ∈ us, z < 18446744073709551616) (hn : us.length = n) (hl : n ≤ maxLen) : Wds w (.slice (some ⟨g, 0, none⟩) n cap) us := by
  subst hn
  refine ⟨hz, hl, _, cap, rfl, .inr ⟨_, rfl, .inr ⟨g, 0, rfl, lt_of_heap hg, fun j hj => ?_⟩⟩⟩
  rw [cell_of_row w g _ _ _ _ hg, Nat.zero_add, List.getElem?_toArray]
  exact wds_get us j hj
/-- A row that the call owns. -/
theorem Wds.ofOwn {w : World} {base : Nat} {e : TypeId} {v : Value} {n : Nat} {us : List Nat} (h : w.ownsRow base e 1 v n (wds us)) (hz : ∀ z ∈ us, z < 18446744073709551616) : Wds w v us := by
  have h1 := h.1
  simp [wds_length] at h1
  rcases h.2 with ⟨rfl, h0⟩ | ⟨g, cap, cur, rfl, hb, hg, hn, hm, hs, ht⟩
  · have : us = [] := List.eq_nil_of_length_eq_zero (by omega)
    subst this
    exact ⟨hz, by simp, none, 0, rfl, .inl ⟨rfl, rfl, rfl⟩⟩
  · refine ⟨hz, by omega, _, cap, by rw [h1], .inr ⟨_, rfl, .inr ⟨g, 0, rfl, (Array.getElem?_eq_some_iff.1 hg).1, ?_⟩⟩⟩
    intro j hj
    have := h.cells (g := g) rfl j (.int .u64 (us[j]?.getD 0 : Nat)) (wds_get us j hj)
    rw [addr_add] at this
    rw [Nat.zero_add]; exact this
/-- A row that came in. -/
theorem Wds.ofRow {w : World} {a : Option Addr} {len cap : Nat} {xs : List Int} (h : IsRow .u64 w a len cap xs) : Wds w (.slice a len cap) ((xs.take len).map Int.toNat) := by
  rcases h with ⟨rfl, rfl, rfl, rfl⟩ | ⟨x, rfl, hl, hm, hz, hc, hw⟩
  · exact ⟨by simp, by simp, none, 0, rfl, .inl ⟨rfl, rfl, rfl⟩⟩
  · have hlen : ((xs.take len).map Int.toNat).length = len := by rw [List.length_map, List.length_take]; omega
    have hwf : ∀ z ∈ xs, 0 ≤ z ∧ z ≤ 18446744073709551615 := fun z hz' => by
      have := hw z hz'
      simpa [Lit.wf, IntKind.min, IntKind.max, IntKind.signed, IntKind.bits] using this
    refine ⟨?_, by omega, _, cap, by rw [hlen], .inr ⟨x, rfl, ?_⟩⟩
    · intro z hz'
      rw [List.mem_map] at hz'
      obtain ⟨y, hy, rfl⟩ := hz'
      have := hwf y (List.mem_of_mem_take hy)
      omega
    · by_cases h0 : len = 0
      · left; subst h0; rfl
      · right
        obtain ⟨b, off, rfl, hc'⟩ := ints_at hc (by omega)
        refine ⟨b, off, rfl, cell_lt (hc' 0 (by omega)), fun j hj => ?_⟩
        rw [hlen] at hj
        rw [hc' j (by omega)]
        have hj' : j < xs.length := by omega
        have := hwf _ (List.getElem_mem hj')
        simp [List.getD, List.getElem?_map, List.getElem?_take_of_lt hj, List.getElem?_eq_getElem hj']
        omega

/-- 'append(own, words...)'. -/
theorem wpList_append_wds {P : Program} (w : World) {ops : Array Oper} {rest : List Oper} {o : Oper} {a : Act} {Q : Exit → Act → World → Prop} (hgd : o.guard = none) (s x : Operand) (t : TypeId)
    (ho : o.op = .call { callee := .builtin .append, args := #[s, x], argTypes := #[t, t] })
    (base : Nat) (e : TypeId) (i : TypeInfo) (ht : P.underlying t = some (.slice e)) (hi : P.info? e = some i) (hz : i.zero = some (.int .u64 0)) (hsize : i.size = 1) (hby : i.bytes = 8)
    (v : Value) (n : Nat) (xs : List Nat) (hs : a.eval s = v) (hown : w.ownsRow base e 1 v n (wds xs))
    (y : Value) (zs : List Nat) (hx : a.eval x = y) (hsrc : Wds w y zs) (h63 : n + zs.length ≤ 1000000) (hbase : base ≤ w.heap.size)
    (h : ∀ v' w', w'.ownsRow base e 1 v' (n + zs.length) (wds (xs ++ zs)) → w.grownBy w' v.ownBlock → wpList P ops Q rest (a.put o.dst v') w') : wpList P ops Q (o :: rest) a w := by
  have hp := hsrc.src
  obtain ⟨h1, h2, sp, cap, rfl, h5⟩ := hsrc
  obtain ⟨sp', cap', e', hp⟩ := hp
  simp only [Value.slice.injEq] at e'
  obtain ⟨rfl, _, rfl⟩ := e'
  by_cases h0 : zs = []
  · subst h0
    rcases h5 with ⟨rfl, _, rfl⟩ | ⟨ad, rfl, _⟩
    · refine wpList_append_own_none hgd s x t ho base e i 1 ht hi v n _ hs hown hx ?_
      exact h v w (by simpa using hown) (World.grownBy.refl _ _)
    · refine wpList_append_own w hgd s x t ho base e i (.int .u64 0) 1 8 ht hi hz hsize hby rfl (by decide) v n _ hs hown ad 0 cap (wds []) hx rfl ?_ ?_ (by unfold maxLen; omega) (by simp at h63; omega) hbase ?_
      · intro j u hu
        simp [wds] at hu
      · intro u hu
        exact wds_one _ u hu
      · intro v' w' hw hg _
        rw [← wds_append] at hw
        exact h v' w' hw hg
  · have hl : 0 < zs.length := by
      cases zs with
      | nil => exact absurd rfl h0
      | cons z r => simp
    obtain ⟨ad, rfl, hc⟩ := hp hl
    refine wpList_append_own w hgd s x t ho base e i (.int .u64 0) 1 8 ht hi hz hsize hby rfl (by decide) v n _ hs hown ad zs.length cap (wds zs) hx (by rw [wds_length, Nat.mul_one]) hc (wds_one zs) (by unfold maxLen; omega) (by omega) hbase ?_
    intro v' w' hw hg _
    rw [← wds_append] at hw
    exact h v' w' hw hg

/-- 'copy(row, words)', of as many as the row has. -/
theorem wpList_copy_wds {P : Program} {w : World} {ops : Array Oper} {rest : List Oper} {o : Oper} {a : Act} {Q : Exit → Act → World → Prop} (hgd : o.guard = none) (d s : Operand) (dT sT : TypeId)
    (ho : o.op = .call { callee := .builtin .copy, args := #[d, s], argTypes := #[dT, sT] }) (elem : TypeId) (hu : P.underlying dT = some (.slice elem)) (hsz : (P.info? elem).map (·.size) = some 1)
    (g n cap : Nat) (hd : a.eval d = .slice (some ⟨g, 0, none⟩) n cap) (y : Value) (us : List Nat) (hs : a.eval s = y) (hsrc : Wds w y us) (hn : us.length = n)
    (cur : List Value) (t : TypeId) (hg : w.heap[g]? = some (.cells cur.toArray t (0, 0))) (hc : cur.length = n)
    (h : ∀ w', Hid (w'.heap[g]? = some (.cells (wds us).toArray t (0, 0))) → Hid (Only g w w') → wpList P ops Q rest (a.put o.dst (goInt n)) w') : wpList P ops Q (o :: rest) a w := by
  obtain ⟨sp, sc, rfl, hp⟩ := hsrc.src
  subst hn
  by_cases h0 : us.length = 0
  · have e0 : us = [] := List.eq_nil_of_length_eq_zero h0
    refine wpList_copy_nothing hgd d s dT sT ho elem hu hsz _ sp _ cap _ sc hd hs (by rw [h0]; rfl) ?_
    have e1 : cur = wds us := by rw [e0]; exact List.eq_nil_of_length_eq_zero (by rw [hc, h0])
    have := h w (by rw [← e1]; exact hg) (Only.refl _ _)
    rwa [h0] at this
  · obtain ⟨ad, rfl, hcell⟩ := hp (by omega)
    refine wpList_copy_own hgd d s dT sT ho elem hu hsz g 0 _ cap ad _ sc hd hs cur.toArray t hg (wds us) (by rw [wds_length]; exact (Nat.min_self _).symm) hcell (by rw [wds_length, Nat.zero_add]; simp [hc]) (wds_one us) ?_
    rw [wds_length]
    refine h _ ?_ ?_
    · unfold Hid
      have := setRow_heap w g cur.toArray (cur.toArray.toList.take 0 ++ (wds us ++ cur.toArray.toList.drop (0 + us.length))).toArray t _ hg
      rw [this]
      simp [← hc]
    · exact Kept.trans (K := fun k => k < w.heap.size ∧ k ≠ g) (Kept.refl _ _) ⟨rfl, rfl, rfl, by simp [World.setRow], fun k hk => setRow_other w g k _ hk.2⟩
end Go.Proofs.YtjhkcdnfnmglhaaGreatDoor

/- Contracts of the two 'Up' functions of layer 1: what each call returns, for every pair of ints. -/
namespace Go.Proofs.YtjhkcdnfnmglhaaGreatDoor
open Go.RowKit
set_option linter.unusedVariables false


def upI (n to : Int) : Int :=
  if n < 1 ∨ to < 1 then 0
  else if 0 < n % to then (if 4611686018427387904 - (to - n % to) < n then 0 else n + (to - n % to))
  else if 4611686018427387904 < n then 0 else n

theorem upI_a (n t : Int) (h : n < 1 ∨ t < 1) : upI n t = 0 := by unfold upI; rw [if_pos h]
theorem upI_b (n t : Int) (h : 1 ≤ n) (h2 : 1 ≤ t) (h3 : 0 < n % t) (h4 : 4611686018427387904 - (t - n % t) < n) : upI n t = 0 := by
  unfold upI; rw [if_neg (by omega), if_pos h3, if_pos h4]
theorem upI_c (n t : Int) (h : 1 ≤ n) (h2 : 1 ≤ t) (h3 : 0 < n % t) (h4 : n ≤ 4611686018427387904 - (t - n % t)) : upI n t = n + (t - n % t) := by
  unfold upI; rw [if_neg (by omega), if_pos h3, if_neg (by omega)]
theorem upI_d (n t : Int) (h : 1 ≤ n) (h2 : 1 ≤ t) (h3 : n % t ≤ 0) (h4 : 4611686018427387904 < n) : upI n t = 0 := by
  unfold upI; rw [if_neg (by omega), if_neg (by omega), if_pos h4]
theorem upI_e (n t : Int) (h : 1 ≤ n) (h2 : 1 ≤ t) (h3 : n % t ≤ 0) (h4 : n ≤ 4611686018427387904) : upI n t = n := by
  unfold upI; rw [if_neg (by omega), if_neg (by omega), if_neg (by omega)]

theorem up_any (n t : Int) (w : World) (hn1 : -9223372036854775808 ≤ n) (hn2 : n ≤ 9223372036854775807) (ht1 : -9223372036854775808 ≤ t) (ht2 : t ≤ 9223372036854775807) :
    Calls Tryz.prog 70 #[.int .i64 n, .int .i64 t] w fun e w' => e = .returned (.int .i64 (upI n t)) ∧ w' = w := by
  by_cases h1 : n < 1
  · go_enter Tryz.func70, Tryz.ntmps70
    go_wp2
    go_ret
    exact ⟨ret_int (upI_a n t (Or.inl h1)).symm, rfl⟩
  · by_cases h2 : t < 1
    · go_enter Tryz.func70, Tryz.ntmps70
      go_wp2
      go_ret
      exact ⟨ret_int (upI_a n t (Or.inr h2)).symm, rfl⟩
    · have hr0 : 0 ≤ n % t := Int.emod_nonneg _ (by omega)
      have hr1 : n % t < t := Int.emod_lt_of_pos _ (by omega)
      by_cases h3 : 0 < n % t
      · by_cases h4 : 4611686018427387904 - (t - n % t) < n
        · go_enter Tryz.func70, Tryz.ntmps70
          go_wp2
          go_ret
          exact ⟨ret_int (upI_b n t h1 h2 h3 h4).symm, rfl⟩
        · go_enter Tryz.func70, Tryz.ntmps70
          go_wp2
          go_ret
          exact ⟨ret_int (upI_c n t h1 h2 h3 h4).symm, rfl⟩
      · by_cases h4 : 4611686018427387904 < n
        · go_enter Tryz.func70, Tryz.ntmps70
          go_wp2
          go_ret
          exact ⟨ret_int (upI_d n t h1 h2 h3 h4).symm, rfl⟩
        · go_enter Tryz.func70, Tryz.ntmps70
          go_wp2
          go_ret
          exact ⟨ret_int (upI_e n t h1 h2 h3 h4).symm, rfl⟩

end Go.Proofs.YtjhkcdnfnmglhaaGreatDoor

/- How a row comes about: 'New', 'Load'; 'Words'. -/
namespace Go.Proofs.YtjhkcdnfnmglhaaGreatDoor
open Go.RowKit
set_option linter.unusedVariables false
set_option maxRecDepth 20000

theorem Tryz.infoU64 : (Tryz.prog.info? 122).map (fun i => (i.zero, i.size, i.bytes)) = some (some (.int .u64 0), 1, 8) := by kernel_rfl
theorem Tryz.sizeU64 : (Tryz.prog.info? 122).map (·.size) = some 1 := by kernel_rfl
/-- No bit. -/
def noneB : Nat → Bool := fun _ => false
theorem num_none (o : Nat) : ∀ k, num noneB o k = 0
  | 0 => rfl
  | k + 1 => by rw [num, num_none o k]; simp [noneB]
theorem made_none (m : Nat) : madeCells #[Value.int .u64 0] m = (wordL noneB m).toArray := by
  apply Array.ext'
  simp only [madeCells, wordL, num_none]
  apply List.ext_getElem?
  intro i
  by_cases h : i < m
  · simp [h, Nat.mod_one]
  · simp [h]
/-- The words of B, as numbers. -/
def wordN (B : Nat → Bool) (m : Nat) : List Nat := (List.range m).map fun j => num B (64 * j) 64
theorem wordL_wds (B : Nat → Bool) (m : Nat) : wordL B m = wds (wordN B m) := by simp [wordL, wds, wordN, Function.comp_def]
theorem wordN_length (B : Nat → Bool) (m : Nat) : (wordN B m).length = m := by simp [wordN]
theorem wordN_small (B : Nat → Bool) (m : Nat) : ∀ z ∈ wordN B m, z < 18446744073709551616 := by
  intro z hz
  simp only [wordN, List.mem_map] at hz
  obtain ⟨j, _, rfl⟩ := hz
  exact num_lt64 _ _
theorem up_wn (n : Nat) (h : n ≤ 65536) : upI (n : Nat) 64 = ((64 * wn n : Nat) : Int) := by
  unfold upI wn
  by_cases h1 : ((n : Nat) : Int) < 1
  · rw [if_pos (Or.inl h1)]; omega
  · rw [if_neg (by omega)]
    by_cases h2 : 0 < ((n : Nat) : Int) % 64
    · rw [if_pos h2, if_neg (by omega)]; omega
    · rw [if_neg h2, if_neg (by omega)]; omega

theorem new_ok (w : World) (n : Nat) (hn : n ≤ 65536) (h0 : 0 < w.heap.size) :
    Calls Tryz.prog 56 #[.int .i64 (n : Nat)] w fun x w' => ∃ p b, x = .returned (.tuple #[.pointer (some ⟨p, 0, none⟩), .int .i64 0]) ∧ w.heap.size ≤ p ∧ w.heap.size ≤ b ∧ RowAt w' p b n noneB ∧ Below w.heap.size w w' := by
  obtain ⟨i0, hi, hz0, hz1, hz2⟩ := info_parts Tryz.infoU64
  have E : Hid (upI (n : Nat) 64 = ((64 * wn n : Nat) : Int)) := up_wn n hn
  have hw := wn_le n hn
  go_enter Tryz.func56, Tryz.ntmps56
  go_wp2_with fail
  refine (up_any _ _ _ (by omega) (by omega) (by omega) (by omega)).mono ?_
  rintro e w' ⟨rfl, rfl⟩
  rw [E.out]
  have hq : ((64 * wn n : Nat) : Int).tdiv 64 = (wn n : Nat) := by rw [Int.natCast_mul]; exact Int.mul_tdiv_cancel_left _ (by decide)
  have HM : Hid (∀ W : World, RowAt ((W.alloc (.cells (wordL noneB (wn n)).toArray 122)).alloc (.cells #[.int .i64 (n : Nat), .slice (some ⟨W.heap.size, 0, none⟩) (wn n) (wn n)] 119)) (W.heap.size + 1) W.heap.size n noneB) := fun W => by
    refine ⟨?_, ?_, hn, fun _ _ => rfl⟩
    · have := heap_alloc_new (W.alloc (.cells (wordL noneB (wn n)).toArray 122)) (.cells #[.int .i64 (n : Nat), .slice (some ⟨W.heap.size, 0, none⟩) (wn n) (wn n)] 119)
      simpa using this
    · have h1 := heap_alloc_new W (.cells (wordL noneB (wn n)).toArray 122)
      have h2 := ((Below.refl (W.heap.size + 1) (W.alloc (.cells (wordL noneB (wn n)).toArray 122))).alloc (by simp) (.cells #[.int .i64 (n : Nat), .slice (some ⟨W.heap.size, 0, none⟩) (wn n) (wn n)] 119)).block W.heap.size (by omega)
      exact h2.trans h1
  generalize hm : wn n = m at *
  go_wp2_with (at_make; refine wpList_make_exact _ rfl _ _ 117 rfl 122 i0 _ Tryz.underlying117 hi hz0 hz1 .i64 .i64 m rfl rfl ?c1 ?c2 ?_)
  case c1 => rw [hz2]; omega
  case c2 => unfold maxLen; omega
  go_wp2
  go_ret2
  rw [made_none]
  exact ⟨_, _, rfl, by omega, Nat.le_refl _, HM.out _, ((Below.refl _ _).alloc (Nat.le_refl _) _).alloc (by simp) _⟩
theorem new_no (w : World) (n : Int) (h1 : -9223372036854775808 ≤ n) (h2 : n ≤ 9223372036854775807) (hn : n < 0 ∨ 65536 < n) :
    Calls Tryz.prog 56 #[.int .i64 n] w fun x w' => x = .returned (.tuple #[.pointer none, .int .i64 2]) ∧ w' = w := by
  by_cases h : n < 0
  · go_enter Tryz.func56, Tryz.ntmps56
    go_wp2
    go_ret2
    exact ⟨rfl, rfl⟩
  · have h3 : 65536 < n := by omega
    go_enter Tryz.func56, Tryz.ntmps56
    go_wp2
    go_ret2
    exact ⟨rfl, rfl⟩

end Go.Proofs.YtjhkcdnfnmglhaaGreatDoor

/- How a board comes about: 'New'. -/
namespace Go.Proofs.YtjhkcdnfnmglhaaGreatDoor
open Go.RowKit
set_option linter.unusedVariables false
set_option maxRecDepth 20000

theorem own_other {w : World} {base n b : Nat} {e t : TypeId} {v : Value} {xs : List Value} {C : Array Value} {fr : Nat × Nat} (h : w.ownsRow base e 1 v n xs) (hb : w.heap[b]? = some (.cells C t fr)) (ht : t ≠ e) : some b ≠ v.ownBlock := by
  rcases h.2 with ⟨rfl, _⟩ | ⟨g, cap, cur, rfl, _, hg, _⟩
  · simp [Value.ownBlock]
  · intro e2
    simp [Value.ownBlock] at e2
    subst e2
    rw [hg] at hb
    simp at hb
    exact ht hb.2.1.symm
theorem heap_in {w : World} {b : Nat} {o : Obj} (x : Obj) (h : w.heap[b]? = some o) : (w.alloc x).heap[b]? = some o := (heap_alloc_old w x (lt_of_heap h)).trans h
theorem ownSet {w : World} {base n q : Nat} {e t : TypeId} {v : Value} {xs : List Value} {C : Array Value} {fr : Nat × Nat} (h : w.ownsRow base e 1 v n xs) (hq : w.heap[q]? = some (.cells C t fr)) (ht : t ≠ e) (i : Nat) (u : Value) : (w.setCell ⟨q, i, none⟩ u).ownsRow base e 1 v n xs :=
  ownsRow_same h fun g hg => Below.heap_setCell w ⟨q, i, none⟩ u g (fun e2 => own_other h hq ht (by rw [hg]; exact congrArg some e2.symm))
theorem belowOut {B q : Nat} {a w : World} (h : Below B a w) (hq : B ≤ q) (i : Nat) (u : Value) : Below B a (w.setCell ⟨q, i, none⟩ u) :=
  ⟨h.os, h.tape, h.output, by simpa using h.size, fun k hk => (Below.heap_setCell w _ u k (by show k ≠ q; omega)).trans (h.block k hk)⟩
/-- What stands between two rounds of New's first loop. -/
structure NewI (w : World) (p b q n c : Nat) (v : Value) (wr : World) : Prop where
  own : wr.ownsRow w.heap.size 3 1 v c (nums (frL noneB n c))
  head : wr.heap[q]? = some (.cells #[.pointer (some ⟨p, 0, none⟩), v] 101 (0, 0))
  row : RowAt wr p b n noneB
  bel : Below w.heap.size w wr
theorem NewI.old {w wr w7 : World} {p b q n c k : Nat} {v : Value} {o : Obj} {C : Array Value} {t : TypeId} {fr : Nat × Nat} (h : NewI w p b q n c v wr) (hg : (wr.alloc o).grownBy w7 v.ownBlock) (hk : wr.heap[k]? = some (.cells C t fr)) (ht : t ≠ 3) : w7.heap[k]? = some (.cells C t fr) :=
  (hg.block k (by simp; exact Nat.lt_succ_of_lt (lt_of_heap hk)) (own_other (h.own.alloc o) (heap_in o hk) ht)).trans (heap_in o hk)
theorem NewI.cold {w wr w7 : World} {p b q n c : Nat} {v : Value} {o : Obj} (h : NewI w p b q n c v wr) (hg : (wr.alloc o).grownBy w7 v.ownBlock) : World.frozen? w7 ⟨q, 1, none⟩ = false ∧ World.cell? w7 ⟨q, 1, none⟩ = some v := by
  have := h.old hg h.head (by decide)
  exact ⟨by simp [World.frozen?, this], by rw [cell_of_row w7 q _ _ _ _ this]; rfl⟩
theorem NewI.grow {w wr w7 : World} {p b q n c : Nat} {v v7 : Value} {o : Obj} (h : NewI w p b q n c v wr) (hq : w.heap.size ≤ q) (hown : w7.ownsRow w.heap.size 3 1 v7 (c + 1) (nums (frL noneB n (c + 1)))) (hg : (wr.alloc o).grownBy w7 v.ownBlock) : NewI w p b q n (c + 1) v7 (w7.setCell ⟨q, 1, none⟩ v7) := by
  have h1 := h.old hg h.head (by decide)
  have h2 := h.old hg h.row.head (by decide)
  have h3 := h.old hg h.row.body (by decide)
  have hs := h.bel.size
  have hb : Below w.heap.size w w7 := grewAny (h.bel.alloc hs o) (h.own.alloc o) hg (by simp; exact Nat.le_succ_of_le hs)
  exact ⟨ownSet hown h1 (by decide) 1 v7, heap_set_row h1 1 v7, ⟨(Below.heap_setCell w7 _ _ p (ne_type h2 h1 (by decide))).trans h2, (Below.heap_setCell w7 _ _ b (ne_type h3 h1 (by decide))).trans h3, h.row.small, h.row.tail⟩, belowOut hb hq 1 v7⟩
def NewOk (n : Int) (zs : List Int) : Prop := ∃ m : Nat, n = (m : Int) ∧ 1 ≤ m ∧ m ≤ 65536 ∧ Good m zs
theorem newB_off (w : World) (n : Int) (v : Value) (hm : -9223372036854775808 ≤ n) (hx : n ≤ 9223372036854775807) (h0 : 0 < w.heap.size) (hn : n < 1 ∨ 65536 < n) :
    Calls Tryz.prog 28 #[.int .i64 n, v] w fun x w' => x = .returned (.tuple #[.pointer none, .int .i64 2]) ∧ Below w.heap.size w w' := by
  by_cases h : n = 0
  · subst h
    have HN : Hid (Calls Tryz.prog 56 #[.int .i64 0] w fun x w' => ∃ p b, x = .returned (.tuple #[.pointer (some ⟨p, 0, none⟩), .int .i64 0]) ∧ w.heap.size ≤ p ∧ w.heap.size ≤ b ∧ RowAt w' p b 0 noneB ∧ Below w.heap.size w w') := new_ok w 0 (by omega) h0
    go_enter Tryz.func28, Tryz.ntmps28
    go_wp2_with fail
    refine HN.out.mono ?_
    rintro e w' ⟨p, b, rfl, -, -, -, hB⟩
    have HB : Hid (Below w.heap.size w w') := hB
    clear hB
    go_wp2
    go_ret2
    exact ⟨rfl, HB.out⟩
  · have HN : Hid (Calls Tryz.prog 56 #[.int .i64 n] w fun x w' => x = .returned (.tuple #[.pointer none, .int .i64 2]) ∧ w' = w) := new_no w n hm hx (by omega)
    go_enter Tryz.func28, Tryz.ntmps28
    go_wp2_with fail
    refine HN.out.mono ?_
    rintro e w' ⟨rfl, rfl⟩
    go_wp2
    go_ret2
    exact ⟨rfl, Below.refl _ _⟩
/-- What New answers, and leaves. -/
def NewIs (w : World) (n : Nat) (zs : List Int) (x : Ending) (w' : World) : Prop :=
  Below w.heap.size w w' ∧ ((Good n zs ∧ ∃ q p b f cap, x = .returned (.tuple #[.pointer (some ⟨q, 0, none⟩), .int .i64 0]) ∧ w.heap.size ≤ b ∧ w.heap.size ≤ f ∧ BoardAt w' q p b f cap n (takenB zs)) ∨ (¬ Good n zs ∧ x = .returned (.tuple #[.pointer none, .int .i64 2])))
set_option maxRecDepth 20000 in
set_option maxHeartbeats 2000000 in
theorem newB_any (w : World) (n : Nat) (v0 : Value) (zs : List Int) (hn1 : 1 ≤ n) (hn : n ≤ 65536) (ht : Steps w) (hv : Nums w v0 zs) :
    Calls Tryz.prog 28 #[.int .i64 (n : Nat), v0] w fun x w' => NewIs w n zs x w' := by
  obtain ⟨i0, hi, hz0, hz1, hz2⟩ := info_parts Tryz.infoI64
  have HT : Hid (Steps w) := ht
  have HV : Hid (Nums w v0 zs) := hv
  have HN : Hid (Calls Tryz.prog 56 #[.int .i64 (n : Nat)] w fun x w' => ∃ p b, x = .returned (.tuple #[.pointer (some ⟨p, 0, none⟩), .int .i64 0]) ∧ w.heap.size ≤ p ∧ w.heap.size ≤ b ∧ RowAt w' p b n noneB ∧ Below w.heap.size w w') := new_ok w n hn ht.pos
  have hwn := wn_le n hn
  obtain ⟨a, cp, rfl⟩ := hv.shape
  obtain ⟨L, hL⟩ : ∃ L, L = zs.length := ⟨_, rfl⟩
  rw [← hL] at HV ⊢
  have HL : Hid (L = zs.length) := hL
  have hLm : L ≤ 9223372036854775807 := by have := HV.out.capLe; unfold maxLen at this; omega
  clear ht hv hL
  go_enter Tryz.func28, Tryz.ntmps28
  go_wp2_with fail
  refine HN.out.mono ?_
  rintro e w1 ⟨p, b, rfl, hp, hb, hR, hB⟩
  have HR1 : Hid (RowAt w1 p b n noneB) := hR
  have HB1 : Hid (Below w.heap.size w w1) := hB
  have HP1 : Hid (w.heap.size ≤ p ∧ w.heap.size ≤ b) := ⟨hp, hb⟩
  clear hp hb hR hB
  obtain ⟨q, hq⟩ : ∃ q, q = w1.heap.size := ⟨_, rfl⟩
  have HQS : Hid (w.heap.size ≤ q) := by have := HB1.out.size; unfold Hid; omega
  have HST : Hid (∃ v, (w1.alloc (.cells #[.pointer (some ⟨p, 0, none⟩), .slice none 0 0] 101 (0, 0))).ownsRow w.heap.size 3 1 v 0 (nums (frL noneB n 0)) ∧ (w1.alloc (.cells #[.pointer (some ⟨p, 0, none⟩), .slice none 0 0] 101 (0, 0))).heap[q]? = some (.cells #[.pointer (some ⟨p, 0, none⟩), v] 101 (0, 0))) := by
    refine ⟨.slice none 0 0, World.ownsRow_nil _ _ _ _, ?_⟩
    rw [hq]; exact heap_alloc_new _ _
  have HR2 : Hid (RowAt (w1.alloc (.cells #[.pointer (some ⟨p, 0, none⟩), .slice none 0 0] 101 (0, 0))) p b n noneB) := HR1.out.below ((Below.refl _ _).alloc (Nat.le_refl _) _)
  have HB2 : Hid (Below w.heap.size w (w1.alloc (.cells #[.pointer (some ⟨p, 0, none⟩), .slice none 0 0] 101 (0, 0)))) := HB1.out.alloc HB1.out.size _
  go_wp2
  rw [← hq]
  clear hq
  go_loopw [9] (fun at' wr => ∃ (c : Nat) (v : Value), at' = .int .i64 ((64 * c : Nat) : Int) ∧ c ≤ wn n ∧ Hid (NewI w p b q n c v wr)) (fun at' _ => 65600 - (intOf at').toNat)
  case atStart =>
    obtain ⟨v, h1, h2⟩ := HST.out
    exact ⟨0, v, rfl, Nat.zero_le _, h1, h2, HR2.out, HB2.out⟩
  case round =>
    obtain ⟨c, v, rfl, hc, hI⟩ := hrel
    have HSZ : Hid (w.heap.size ≤ wr.heap.size) := hI.out.bel.size
    by_cases hlt : 64 * c < n
    · have hcl : c < wn n := by unfold wn; omega
      have hcell : World.cell? wr ⟨q, 1, none⟩ = some v := by rw [cell_of_row wr q _ _ _ _ hI.out.head]; rfl
      obtain ⟨r, hr⟩ : ∃ r : Nat, r = n - 64 * c := ⟨_, rfl⟩
      have hr2 : (n : Int) - ((64 * c : Nat) : Int) = (r : Nat) := by omega
      have hr3 : (n : Int) - 64 * (c : Nat) = (r : Nat) := by omega
      have HRR : Hid (r = n - 64 * c) := hr
      clear hr
      by_cases hmin : r < 64
      · have hc2 : ((r : Nat) : Int) < 64 := by omega
        have HX : Hid (frL noneB n c ++ [((r : Nat) : Int)] = frL noneB n (c + 1)) := by
          unfold Hid frL
          rw [List.range_succ, List.map_append, List.map_singleton, fr_none n c noneB (fun _ => rfl), show min 64 (n - 64 * c) = r by have := HRR.out; omega]
          try rfl
        go_wp2_with (at_builtin; (refine wpList_append_nums _ rfl _ _ 63 rfl w.heap.size 3 i0 Tryz.underlying63 hi hz0 hz1 hz2 v c (frL noneB n c) rfl (hI.out.own.alloc _) _ [((r : Nat) : Int)] rfl (Nums.one ⟨by omega, by omega⟩) ?d1 ?d2 ?_; (case d1 => simp; omega); (case d2 => simp; exact Nat.le_succ_of_le HSZ.out); intro v7 w7 hown7 hg7 _; obtain ⟨a7, c7, rfl⟩ := own_sh hown7; rw [HX.out] at hown7; have hfz : World.frozen? w7 ⟨q, 1, none⟩ = false := (hI.out.cold hg7).1; have hcc : World.cell? w7 ⟨q, 1, none⟩ = some v := (hI.out.cold hg7).2; have HI7 : Hid (NewI w p b q n (c + 1) (.slice a7 (c + 1) c7) (w7.setCell ⟨q, 1, none⟩ (.slice a7 (c + 1) c7))) := hI.out.grow HQS.out hown7 hg7; clear hown7 hg7))
        go_roundw
        case rel => exact ⟨c + 1, .slice a7 (c + 1) c7, by go_num, by omega, HI7⟩
        case measure => simp [intOf]; omega
      · have hc2 : (64 < r) ∨ r = 64 := by omega
        have HX : Hid (frL noneB n c ++ [(64 : Int)] = frL noneB n (c + 1)) := by
          unfold Hid frL
          rw [List.range_succ, List.map_append, List.map_singleton, fr_none n c noneB (fun _ => rfl), show min 64 (n - 64 * c) = 64 by have := HRR.out; omega]
          try rfl
        go_wp2_with (at_builtin; (refine wpList_append_nums _ rfl _ _ 63 rfl w.heap.size 3 i0 Tryz.underlying63 hi hz0 hz1 hz2 v c (frL noneB n c) rfl (hI.out.own.alloc _) _ [(64 : Int)] rfl (Nums.one ⟨by omega, by omega⟩) ?d1 ?d2 ?_; (case d1 => simp; omega); (case d2 => simp; exact Nat.le_succ_of_le HSZ.out); intro v7 w7 hown7 hg7 _; obtain ⟨a7, c7, rfl⟩ := own_sh hown7; rw [HX.out] at hown7; have hfz : World.frozen? w7 ⟨q, 1, none⟩ = false := (hI.out.cold hg7).1; have hcc : World.cell? w7 ⟨q, 1, none⟩ = some v := (hI.out.cold hg7).2; have HI7 : Hid (NewI w p b q n (c + 1) (.slice a7 (c + 1) c7) (w7.setCell ⟨q, 1, none⟩ (.slice a7 (c + 1) c7))) := hI.out.grow HQS.out hown7 hg7; clear hown7 hg7))
        go_roundw
        case rel => exact ⟨c + 1, .slice a7 (c + 1) c7, by go_num, by omega, HI7⟩
        case measure => simp [intOf]; omega
    · have hce : c = wn n := by unfold wn at hc ⊢; omega
      have HTK : Hid (Steps wr) := HT.out.kept hI.out.bel (HT.out.pos)
      have HVr : Hid (Nums wr (.slice a L cp) zs) := HV.out.kept hI.out.bel
      obtain ⟨f, hfb, cap, HBD⟩ : ∃ f, w.heap.size ≤ f ∧ ∃ cap, Hid (BoardAt wr q p b f cap n (takenB [])) := by
        subst hce
        obtain ⟨h1, ⟨rfl, h2⟩ | ⟨f, cap, cur, rfl, h2, h3, h4, h5, h6, h7⟩⟩ := hI.out.own
        · unfold wn at h2; omega
        · refine ⟨f, h2, cap, hI.out.head, hI.out.row, ⟨cur, h3, fun c hc => ?_⟩, hn1, h4, h5⟩
          have e := nums_get (frL noneB n (wn n)) c (by rw [frL_length]; exact hc)
          rw [← h7, frL_at hc, List.getElem?_take_of_lt (by omega)] at e
          rw [← Array.getElem?_toList]; exact e
      have HBe : Hid (Below w.heap.size w wr) := hI.out.bel
      have H0 : Hid (0 < b ∧ 0 < f) := by have h1 := HT.out.pos; have h2 := HP1.out.2; exact ⟨by omega, by omega⟩
      have HF : Hid (w.heap.size ≤ f) := hfb
      clear hI hce hfb HSZ HST HR2 HB2 HR1 HB1 HTK
      generalize hT : 64 * c = t at *
      have hdec : ((t : Int) < (n : Nat)) = False := eq_false (by omega)
      clear hT hc
      go_wp2
      go_loopw [47] (fun i wx => ∃ k : Nat, i = .int .i64 (k : Nat) ∧ k ≤ L ∧ Hid (Good n (zs.take k)) ∧ Hid (BoardAt wx q p b f cap n (takenB (zs.take k))) ∧ Hid (Below w.heap.size w wx)) (fun i _ => L - (intOf i).toNat)
      case atStart => exact ⟨0, rfl, Nat.zero_le _, good_nil _, by rw [List.take_zero]; exact HBD, HBe⟩
      case round =>
        obtain ⟨k, rfl, hk, hG, hR, hBe⟩ := hrel
        by_cases hlt : k < L
        · obtain ⟨g, off, rfl, hgl, hcell⟩ := HV.out.addr (by omega)
          have hc := (hBe.out.cell (p := ⟨g, off + k, none⟩) hgl).trans (hcell k hlt)
          have HTr : Hid (Steps _) := HT.out.kept hBe.out HT.out.pos
          have hsm := HV.out.small k
          have hkl : k < zs.length := by have := HL.out; omega
          have HSTOP : Hid (zs[k]?.getD 0 < 0 ∨ (n : Int) ≤ zs[k]?.getD 0 ∨ (∃ s : Nat, zs[k]?.getD 0 = (s : Int) ∧ takenB (zs.take k) s = true) → ¬ Good n zs) := good_stop hkl
          have HSTEP : Hid (∀ s : Nat, zs[k]?.getD 0 = (s : Int) → s < n → takenB (zs.take k) s = false → Good n (zs.take (k + 1)) ∧ takenB (zs.take (k + 1)) = putB (takenB (zs.take k)) s 1 true) := fun s h1 h2 h3 => good_step hG.out hkl h1 h2 h3
          clear hcell hgl
          generalize zs[k]?.getD 0 = z at *
          have hz1 := hsm.1
          have hz2 := hsm.2
          by_cases hbad : z < 0 ∨ (n : Int) ≤ z ∨ (∃ s : Nat, z = (s : Int) ∧ takenB (zs.take k) s = true)
          · have HN : Hid (¬ Good n zs) := HSTOP.out hbad
            have HGV : Hid (Calls Tryz.prog 57 #[.pointer (some ⟨q, 0, none⟩), .int .i64 z, .int .i64 1] wr fun x w' => x = .returned (.int .i64 2) ∧ w' = wr) := by
              by_cases hoff : z < 0 ∨ (n : Int) ≤ z
              · exact take_off wr q p b f cap n _ z hR.out hz1 hz2 hoff
              · rcases hbad with h1 | h1 | ⟨s, rfl, h2⟩
                · exact absurd (.inl h1) hoff
                · exact absurd (.inr h1) hoff
                · exact take_taken wr q p b f cap n _ s hR.out HTr.out (by omega) h2
            clear hbad HSTOP HSTEP hkl hsm
            go_wp2_with fail
            refine HGV.out.mono ?_
            rintro e w2 ⟨rfl, rfl⟩
            go_wp2
            go_ret2
            exact ⟨hBe.out, .inr ⟨HN.out, rfl⟩⟩
          · obtain ⟨s, hs⟩ : ∃ s : Nat, z = (s : Int) := ⟨z.toNat, by rw [Int.toNat_of_nonneg]; omega⟩
            subst hs
            have hsn : s < n := by omega
            have hB : takenB (zs.take k) s = false := by
              cases hb : takenB (zs.take k) s
              · rfl
              · exact absurd (.inr (.inr ⟨s, rfl, hb⟩)) hbad
            obtain ⟨h1, h2⟩ := HSTEP.out s rfl hsn hB
            have H1 : Hid (Good n (zs.take (k + 1))) := h1
            have HGV : Hid (Calls Tryz.prog 57 #[.pointer (some ⟨q, 0, none⟩), .int .i64 (s : Nat), .int .i64 1] wr fun x w' => x = .returned (.int .i64 0) ∧ BoardAt w' q p b f cap n (takenB (zs.take (k + 1))) ∧ Only2 b f wr w') := by
              have := take_ok wr q p b f cap n _ s 1 hR.out HTr.out (by omega) (fun i a1 a2 => by rw [show i = s by omega]; exact hB)
              rwa [← h2] at this
            clear hbad HSTOP HSTEP hkl hsm hB h1 h2
            go_wp2_with fail
            refine HGV.out.mono ?_
            rintro e w2 ⟨rfl, a1, a2⟩
            have A1 : Hid (BoardAt w2 q p b f cap n (takenB (zs.take (k + 1)))) := a1
            have A2 : Hid (Below w.heap.size w w2) := hBe.out.trans (a2.below HP1.out.2 HF.out hBe.out.size)
            clear a1 a2
            go_wp2
            go_roundw
            case rel => exact ⟨k + 1, by go_num, by omega, H1, A1, A2⟩
            case measure => simp [intOf]; omega
        · obtain rfl : k = L := by omega
          have HZ : Hid (zs.take k = zs) := List.take_of_length_le (by have := HL.out; omega)
          have HE : Hid (Good n zs) := by
            have := hG.out
            rwa [HZ.out] at this
          have HE2 : Hid (BoardAt wr q p b f cap n (takenB zs)) := by
            have := hR.out
            rwa [HZ.out] at this
          go_wp2
          go_ret2
          exact ⟨hBe.out, .inl ⟨HE.out, q, p, b, f, cap, rfl, HP1.out.2, HF.out, HE2.out⟩⟩
end Go.Proofs.YtjhkcdnfnmglhaaGreatDoor

/- The laws' first lines of layer 9 ('awake'): the document's example. -/
namespace Go.Proofs.YtjhkcdnfnmglhaaGreatDoor
open Go.RowKit
set_option linter.unusedVariables false
set_option maxRecDepth 20000

/-- A new board, of which nothing is taken. -/
theorem newB_empty (w : World) (n : Nat) (hn1 : 1 ≤ n) (hn : n ≤ 65536) (ht : Steps w) :
    Calls Tryz.prog 28 #[.int .i64 (n : Nat), .slice none 0 0] w fun x w' => ∃ q p b f cap, x = .returned (.tuple #[.pointer (some ⟨q, 0, none⟩), .int .i64 0]) ∧ w.heap.size ≤ b ∧ w.heap.size ≤ f ∧ BoardAt w' q p b f cap n noneB ∧ Below w.heap.size w w' :=
  (newB_any w n (.slice none 0 0) [] hn1 hn ht (Nums.nil w)).mono fun x w' h => by
    obtain ⟨hb, ⟨_, q, p, b, f, cap, rfl, h1, h2, h3⟩ | ⟨hg, _⟩⟩ := h
    · exact ⟨q, p, b, f, cap, rfl, h1, h2, h3, hb⟩
    · exact absurd (good_nil n) hg
def ex40 : Nat → Bool := putB noneB 0 40 true
theorem ex_run : IsRun noneB 100 40 0 := ⟨by decide, fun _ _ _ => rfl, fun y hy => absurd hy (by omega)⟩
theorem ex_fr0 : fr ex40 100 0 = 24 := by decide +kernel
theorem ex_fr1 : fr ex40 100 1 = 36 := by decide +kernel
theorem ex_take : IsTake ex40 100 40 where
  lt := by decide
  free := by decide
  first i h1 h2 := by unfold ex40 putB; rw [if_pos (by omega)]
  few d hd h0 := by
    have hd2 : d < 2 := hd
    rw [show 40 / 64 = 0 from rfl, ex_fr0]
    by_cases h : d = 0
    · rw [h, ex_fr0]; exact Nat.le_refl _
    · rw [show d = 1 by omega, ex_fr1]; decide
  one d hd h0 := absurd hd (by omega)
theorem ex_free : cnt (putB ex40 40 1 true) 0 100 = 41 := by decide +kernel
theorem ex_tail : ∀ i, 100 ≤ i → ex40 i = false := fun i hi => by unfold ex40 putB; rw [if_neg (by omega)]; rfl
end Go.Proofs.YtjhkcdnfnmglhaaGreatDoor

/- The law SlotsFew over the contracts of package slots. -/
namespace Go.Proofs.YtjhkcdnfnmglhaaGreatDoor
open Go.RowKit
set_option linter.unusedVariables false

theorem mod_any (n : Int) (d : Nat) (h0 : 0 < d) (hd : d ≤ 100000) (h : I64 n) : ∃ m : Nat, (wrap64 (n.tmod (d : Int) + (d : Int))).tmod (d : Int) = (m : Int) ∧ m < d := by
  have h1 := Int.tmod_lt_of_pos n (show (0 : Int) < (d : Int) by omega)
  have h2 := Int.lt_tmod_of_pos n (show (0 : Int) < (d : Int) by omega)
  have e1 : wrap64 (n.tmod (d : Int) + (d : Int)) = n.tmod (d : Int) + (d : Int) := by
    generalize n.tmod (d : Int) = t at *
    unfold wrap64; omega
  rw [e1]
  refine ⟨((n.tmod (d : Int) + (d : Int)).tmod (d : Int)).toNat, ?_, ?_⟩
  · rw [Int.toNat_of_nonneg (Int.tmod_nonneg _ (by omega))]
  · have := Int.tmod_lt_of_pos (n.tmod (d : Int) + (d : Int)) (show (0 : Int) < (d : Int) by omega)
    omega
theorem wrap_nat (x : Nat) (h : x ≤ 1000000) : wrap64 (x : Int) = (x : Int) := by unfold wrap64; omega
/-- A cluster of which some are taken, not all. -/
def Part (B : Nat → Bool) (m d : Nat) : Prop := 0 < fr B m d ∧ fr B m d < 64
/-- There is at most one such cluster. -/
def Uni (B : Nat → Bool) (m : Nat) : Prop := ∀ c d, c < wn m → d < wn m → Part B m c → Part B m d → c = d
theorem uni_take {B : Nat → Bool} {m s : Nat} (ht : ∀ i, m ≤ i → B i = false) (hu : Uni B m) (h : IsTake B m s) : Uni (putB B s 1 true) m := by
  have key := fun c => fr_set ht h.lt h.free c
  have hp := fr_pos ht h.lt h.free
  have he : s / 64 < wn m := wn_lt h.lt
  have hle := fun c => fr_le B m c
  have other : ∀ d, d < wn m → d ≠ s / 64 → Part (putB B s 1 true) m d → False := by
    intro d hd hne hpd
    have k1 := key d
    rw [if_neg hne] at k1
    have hpd2 : Part B m d := ⟨by have := hpd.1; omega, by have := hpd.2; omega⟩
    have h2 := h.few d hd hpd2.1
    have h3 : Part B m (s / 64) := ⟨hp, by have := hpd2.2; omega⟩
    exact hne (hu d (s / 64) hd he hpd2 h3)
  intro c d hc hd pc pd
  by_cases h1 : c = s / 64
  · by_cases h2 : d = s / 64
    · rw [h1, h2]
    · exact (other d hd h2 pd).elim
  · exact (other c hc h1 pc).elim
theorem uni_none (t : Nat) : Uni noneB (64 * t) := by
  intro c d hc hd pc pd
  have h := pc.2
  rw [fr_none (64 * t) c noneB fun _ => rfl] at h
  unfold wn at hc
  omega
structure FewI (w : World) (q p b f cap m j : Nat) (B : Nat → Bool) (wr : World) : Prop where
  board : BoardAt wr q p b f cap m B
  num : cnt B 0 m = min j m
  uni : Uni B m
  bel : Below w.heap.size w wr
theorem FewI.step {w wr : World} {q p b f cap m j : Nat} {B : Nat → Bool} (h : FewI w q p b f cap m j B wr) (ht : Steps w) (hb : w.heap.size ≤ b) (hf : w.heap.size ≤ f) :
    Calls Tryz.prog 33 #[.pointer (some ⟨q, 0, none⟩)] wr fun x w' => ∃ (a e : Int) (B' : Nat → Bool), x = .returned (.tuple #[.int .i64 a, .int .i64 e]) ∧ FewI w q p b f cap m (j + 1) B' w' :=
  (take_any wr q p b f cap m B h.board (ht.kept h.bel ht.pos)).mono fun x w' hx => by
    rcases hx with ⟨s, rfl, h1, h2, h3⟩ | ⟨rfl, h1, rfl⟩
    · refine ⟨_, _, _, rfl, h2, ?_, uni_take h.board.row.tail h.uni h1, h.bel.trans (h3.below hb hf h.bel.size)⟩
      have e1 := cnt_put_in (o := 0) (k := m) h1.free (Nat.zero_le _) (by have := h1.lt; omega)
      have e2 := cnt_le (putB B s 1 true) 0 m
      have e3 := h.num
      rw [e1]
      omega
    · refine ⟨_, _, _, rfl, h.board, ?_, h.uni, h.bel⟩
      have e1 := cnt_full h1
      have e2 := h.num
      omega
end Go.Proofs.YtjhkcdnfnmglhaaGreatDoor

/- The document's row of bits: 'New', 'Turn' of one bit, 'Count'; 'Same'. -/
namespace Go.Proofs.YtjhkcdnfnmglhaaGreatDoor
open Go.RowKit
set_option linter.unusedVariables false
set_option maxRecDepth 20000

/-! ### Same -/
theorem take_succ_eq {us vs : List Nat} {k : Nat} (h1 : k < us.length) (h2 : k < vs.length) (h : us.take k = vs.take k) (e : us[k]?.getD 0 = vs[k]?.getD 0) : us.take (k + 1) = vs.take (k + 1) := by
  rw [List.getElem?_eq_getElem h1, List.getElem?_eq_getElem h2] at e
  simp only [Option.getD_some] at e
  rw [List.take_add_one, List.take_add_one, h, List.getElem?_eq_getElem h1, List.getElem?_eq_getElem h2, e]
/-! ### The document's row -/
def boolL (B : Nat → Bool) (n : Nat) : List Value := (List.range n).map fun i => Value.bool (B i)
theorem boolL_length (B : Nat → Bool) (n : Nat) : (boolL B n).length = n := by simp [boolL]
theorem boolL_at (B : Nat → Bool) (n j : Nat) (h : j < n) : (boolL B n).toArray[j]? = some (Value.bool (B j)) := by simp [boolL, h]
theorem Tryz.infoBool : (Tryz.prog.info? 4).map (fun i => (i.zero, i.size, i.bytes)) = some (some (.bool false), 1, 1) := by kernel_rfl
theorem made_false (n : Nat) : madeCells #[Value.bool false] n = (boolL noneB n).toArray := by
  apply Array.ext'
  simp only [madeCells, boolL]
  apply List.ext_getElem?
  intro i
  by_cases h : i < n
  · simp [h, Nat.mod_one, noneB]
  · simp [h]
end Go.Proofs.YtjhkcdnfnmglhaaGreatDoor
