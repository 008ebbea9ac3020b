/- How a board lies in memory; what a call may turn. -/
import Derived.Test.YthpodknhidgedaaDoorSlot9
import Derived.Test.YthpodknhidgedaaDoorMore8
import Derived.BigQuiet
namespace Go.Proofs.YthpodknhidgedaaDoor
open Go.RowKit
set_option linter.unusedVariables false

/-! ### Only two blocks may have turned -/
def Only2 (b f : Nat) (w w' : World) : Prop := Kept (fun k => k < w.heap.size ∧ k ≠ b ∧ k ≠ f) w w'
theorem Only2.refl (b f : Nat) (w : World) : Only2 b f w w := Kept.refl _ w
theorem Only2.size {b f : Nat} {w w' : World} (h : Only2 b f w w') : w.heap.size ≤ w'.heap.size := Kept.size h
theorem Only2.trans {b f : Nat} {x y z : World} (h : Only2 b f x y) (k : Only2 b f y z) : Only2 b f x z :=
  Kept.trans (K := fun i => i < x.heap.size ∧ i ≠ b ∧ i ≠ f) h (Kept.mono k fun i hi => ⟨Nat.lt_of_lt_of_le hi.1 h.size, hi.2⟩)
theorem Only2.drew {b f : Nat} {a w : World} (h : Only2 b f a w) : Only2 b f a w.drew := Kept.drew h
theorem Only2.undrew {b f : Nat} {a w : World} (h : Only2 b f a.drew w) : Only2 b f a w := Kept.undrew (a := a) h
theorem Only2.ofBelow {b f : Nat} {w w' : World} (h : Below w.heap.size w w') : Only2 b f w w' := Kept.ofBelow h fun _ hk => hk.1
theorem Only2.ofOne {b f : Nat} {w w' : World} (h : Only b w w') : Only2 b f w w' := Kept.mono (K := fun i => i < w.heap.size ∧ i ≠ b) h fun _ hk => ⟨hk.1, hk.2.1⟩
theorem Only2.below {b f B : Nat} {w w' : World} (h : Only2 b f w w') (hb : B ≤ b) (hf : B ≤ f) (hB : B ≤ w.heap.size) : Below B w w' := Kept.below h fun k hk => ⟨by omega, by omega, by omega⟩
theorem Only2.setCell {b f : Nat} {a w : World} (h : Only2 b f a w) (i : Nat) (u : Value) : Only2 b f a (w.setCell ⟨f, i, none⟩ u) :=
  Kept.setCell (K := fun i => i < a.heap.size ∧ i ≠ b ∧ i ≠ f) h (fun hk => hk.2.2 rfl) u
theorem Only2.heap {b f : Nat} {w w' : World} (h : Only2 b f w w') {k : Nat} (hk : k < w.heap.size) (h1 : k ≠ b) (h2 : k ≠ f) : w'.heap[k]? = w.heap[k]? := Kept.block h k ⟨hk, h1, h2⟩
theorem ne_type {w : World} {a b : Nat} {C D : Array Value} {s t : TypeId} {f g : Nat × Nat} (h : w.heap[a]? = some (.cells C s f)) (k : w.heap[b]? = some (.cells D t g)) (hst : s ≠ t) : a ≠ b := by
  intro e
  subst e
  have := h.symm.trans k
  simp at this
  exact hst this.2.1

/-! ### A board -/
/-- Of each cluster how many are free, in block f. -/
def FreeAt (w : World) (f n : Nat) (B : Nat → Bool) : Prop := ∃ cur, w.heap[f]? = some (.cells cur 3 (0, 0)) ∧ ∀ c, c < wn n → cur[c]? = some (.int .i64 (fr B n c : Nat))
theorem FreeAt.same {w w' : World} {f n : Nat} {B : Nat → Bool} (h : FreeAt w f n B) (h1 : w'.heap[f]? = w.heap[f]?) : FreeAt w' f n B := by
  obtain ⟨cur, h2, h3⟩ := h
  exact ⟨cur, h1.trans h2, h3⟩
theorem FreeAt.lt {w : World} {f n : Nat} {B : Nat → Bool} (h : FreeAt w f n B) : f < w.heap.size := by
  obtain ⟨cur, h2, h3⟩ := h
  exact lt_of_heap h2
theorem FreeAt.c_cell {w : World} {f n : Nat} {B : Nat → Bool} (h : FreeAt w f n B) (c : Nat) (hc : c < wn n) : w.cell? ⟨f, c, none⟩ = some (.int .i64 (fr B n c : Nat)) := by
  obtain ⟨cur, h2, h3⟩ := h
  rw [cell_of_row w f _ _ _ _ h2, h3 c hc]
theorem FreeAt.c_free {w : World} {f n : Nat} {B : Nat → Bool} (h : FreeAt w f n B) (c : Nat) : w.frozen? ⟨f, c, none⟩ = false := by
  obtain ⟨cur, h2, h3⟩ := h
  simp [World.frozen?, h2]
/-- One cluster has another number. -/
theorem FreeAt.put {w : World} {f n : Nat} {B C : Nat → Bool} (h : FreeAt w f n B) (d : Nat) (x : Nat) (hd : d < wn n) (hx : fr C n d = x) (ho : ∀ c, c ≠ d → fr C n c = fr B n c) :
    FreeAt (w.setCell ⟨f, d, none⟩ (.int .i64 (x : Nat))) f n C := by
  obtain ⟨cur, h2, h3⟩ := h
  have hs : d < cur.size := by
    have := h3 d hd
    exact (Array.getElem?_eq_some_iff.1 this).1
  refine ⟨_, heap_set_row h2 d _, fun c hc => ?_⟩
  rw [Array.getElem?_setIfInBounds]
  by_cases he : d = c
  · subst he
    rw [if_pos rfl, if_pos hs, hx]
  · rw [if_neg he, h3 c hc, ho c (fun e => he e.symm)]

/-- A board of n slots at q, B of which are taken: its row of bits at p and b, its numbers at f. -/
structure BoardAt (w : World) (q p b f cap n : Nat) (B : Nat → Bool) : Prop where
  head : w.heap[q]? = some (.cells #[.pointer (some ⟨p, 0, none⟩), .slice (some ⟨f, 0, none⟩) (wn n) cap] 58 (0, 0))
  row : RowAt w p b n B
  nums : FreeAt w f n B
  pos : 1 ≤ n
  room : wn n ≤ cap ∧ cap ≤ maxLen
theorem BoardAt.p_cell {w : World} {q p b f cap n : Nat} {B : Nat → Bool} (h : BoardAt w q p b f cap n B) : w.cell? ⟨q, 0, none⟩ = some (.pointer (some ⟨p, 0, none⟩)) := by
  rw [cell_of_row w q _ _ _ _ h.head]; rfl
theorem BoardAt.f_cell {w : World} {q p b f cap n : Nat} {B : Nat → Bool} (h : BoardAt w q p b f cap n B) : w.cell? ⟨q, 1, none⟩ = some (.slice (some ⟨f, 0, none⟩) (wn n) cap) := by
  rw [cell_of_row w q _ _ _ _ h.head]; rfl
theorem head_off {w : World} {q p b f n : Nat} {B B' : Nat → Bool} {C : Array Value} (h : w.heap[q]? = some (.cells C 58 (0, 0))) (hr : RowAt w p b n B) (hf : FreeAt w f n B') : q ≠ p ∧ q ≠ b ∧ q ≠ f ∧ p ≠ f ∧ b ≠ f := by
  obtain ⟨cur, h2, h3⟩ := hf
  exact ⟨ne_type h hr.head (by decide), ne_type h hr.body (by decide), ne_type h h2 (by decide), ne_type hr.head h2 (by decide), ne_type hr.body h2 (by decide)⟩
theorem BoardAt.same {w w' : World} {q p b f cap n : Nat} {B : Nat → Bool} (h : BoardAt w q p b f cap n B) (h1 : w'.heap[q]? = w.heap[q]?) (h2 : w'.heap[p]? = w.heap[p]?) (h3 : w'.heap[b]? = w.heap[b]?) (h4 : w'.heap[f]? = w.heap[f]?) : BoardAt w' q p b f cap n B :=
  ⟨h1.trans h.head, h.row.same h2 h3, h.nums.same h4, h.pos, h.room⟩
theorem BoardAt.q_lt {w : World} {q p b f cap n : Nat} {B : Nat → Bool} (h : BoardAt w q p b f cap n B) : q < w.heap.size := lt_of_heap h.head
theorem BoardAt.below {w w' : World} {q p b f cap n : Nat} {B : Nat → Bool} (h : BoardAt w q p b f cap n B) (hb : Below w.heap.size w w') : BoardAt w' q p b f cap n B :=
  h.same (hb.block _ h.q_lt) (hb.block _ h.row.p_lt) (hb.block _ h.row.b_lt) (hb.block _ h.nums.lt)
theorem BoardAt.drew {w : World} {q p b f cap n : Nat} {B : Nat → Bool} (h : BoardAt w q p b f cap n B) : BoardAt w.drew q p b f cap n B := ⟨h.head, h.row.drew, h.nums, h.pos, h.room⟩
theorem RowAt.drewN {w : World} {p b n : Nat} {B : Nat → Bool} (h : RowAt w p b n B) (m : Nat) : RowAt (w.drewN m) p b n B := ⟨h.head, h.body, h.small, h.tail⟩
theorem BoardAt.drewN {w : World} {q p b f cap n : Nat} {B : Nat → Bool} (h : BoardAt w q p b f cap n B) (m : Nat) : BoardAt (w.drewN m) q p b f cap n B := ⟨h.head, h.row.drewN m, h.nums, h.pos, h.room⟩
theorem below_drewN (w : World) (n : Nat) : Below w.heap.size w (w.drewN n) := ⟨rfl, rfl, rfl, Nat.le_refl _, fun _ _ => rfl⟩
/-- Another object's block turned. -/
theorem BoardAt.only {w w' : World} {q p b f cap n k : Nat} {B : Nat → Bool} {C : Array Value} {t : TypeId} {g : Nat × Nat} (h : BoardAt w q p b f cap n B) (ho : Only k w w') (hk : w.heap[k]? = some (.cells C t g))
    (h1 : 58 ≠ t) (h2 : 67 ≠ t) (h3 : 68 ≠ t) (h4 : 3 ≠ t) : BoardAt w' q p b f cap n B := by
  obtain ⟨cur, h5, h6⟩ := h.nums
  exact h.same (ho.heap h.q_lt (ne_type h.head hk h1)) (ho.heap h.row.p_lt (ne_type h.row.head hk h2)) (ho.heap h.row.b_lt (ne_type h.row.body hk h3)) (ho.heap h.nums.lt (ne_type h5 hk h4))
theorem Steps.only2 {w w' : World} {b f : Nat} (h : Steps w) (ho : Only2 b f w w') (hb : 0 < b) (hf : 0 < f) : Steps w' := fun j hj => (Kept.cell (p := ⟨0, j, none⟩) ho ⟨h.pos, by show 0 ≠ b; omega, by show 0 ≠ f; omega⟩).trans (h j hj)
theorem Steps.only {w w' : World} {k : Nat} (h : Steps w) (ho : Only k w w') (hk : 0 < k) : Steps w' := fun j hj => (ho.cell (q := ⟨0, j, none⟩) h.pos (Nat.ne_of_lt hk)).trans (h j hj)
theorem Steps.below {w w' : World} (h : Steps w) (hb : Below w.heap.size w w') : Steps w' := h.kept hb h.pos

/-! ### take, give -/
set_option maxRecDepth 20000 in
set_option maxHeartbeats 1000000 in
theorem take_ok (w : World) (q p b f cap n : Nat) (B : Nat → Bool) (a k : Nat) (h : BoardAt w q p b f cap n B) (ht : Steps w) (hk : a + k ≤ n) (hB : ∀ i, a ≤ i → i < a + k → B i = false) :
    Calls Tryd.prog 24 #[.pointer (some ⟨q, 0, none⟩), .int .i64 (a : Nat), .int .i64 (k : Nat)] w fun x w' => x = .returned (.int .i64 0) ∧ BoardAt w' q p b f cap n (putB B a k true) ∧ Only2 b f w w' := by
  have hp := h.p_cell
  have hn := h.row.small
  have H : Hid (BoardAt w q p b f cap n B) := h
  have HB : Hid (∀ i, a ≤ i → i < a + k → B i = false) := hB
  have HC : Hid (Calls Tryd.prog 34 #[.pointer (some ⟨p, 0, none⟩), .int .i64 (a : Nat), .int .i64 (k : Nat)] w fun x w' => x = .returned (.int .i64 0) ∧ RowAt w' p b n (putB B a k true) ∧ Only b w w') := set_ok w p b n B a k h.row ht hk hB
  clear h ht hB
  go_enter Tryd.func24, Tryd.ntmps24
  go_wp2_with fail
  refine HC.out.mono ?_
  rintro e w1 ⟨rfl, hR, hO⟩
  obtain ⟨n1, n2, n3, n4, n5⟩ := head_off H.out.head H.out.row H.out.nums
  have HR : Hid (RowAt w1 p b n (putB B a k true)) := hR
  have HH : Hid (w1.heap[q]? = some (.cells #[.pointer (some ⟨p, 0, none⟩), .slice (some ⟨f, 0, none⟩) (wn n) cap] 58 (0, 0))) := (hO.heap H.out.q_lt n2).trans H.out.head
  have HF : Hid (FreeAt w1 f n B) := H.out.nums.same (hO.heap H.out.nums.lt (fun e => n5 e.symm))
  have HO : Hid (Only2 b f w w1) := Only2.ofOne hO
  have HN : Hid (q ≠ f ∧ p ≠ f ∧ b ≠ f) := ⟨n3, n4, n5⟩
  have HP : Hid (1 ≤ n ∧ wn n ≤ cap ∧ cap ≤ maxLen) := ⟨H.out.pos, H.out.room⟩
  have HT : Hid (∀ i, n ≤ i → B i = false) := H.out.row.tail
  clear hR hO n1 n2 n3 n4 n5 hp
  go_wp2
  go_loopw [8] (fun at' wr => ∃ j : Nat, at' = .int .i64 ((a + j : Nat) : Int) ∧ j ≤ k ∧ Hid (RowAt wr p b n (putB B a k true)) ∧ Hid (wr.heap[q]? = some (.cells #[.pointer (some ⟨p, 0, none⟩), .slice (some ⟨f, 0, none⟩) (wn n) cap] 58 (0, 0))) ∧ Hid (FreeAt wr f n (putB B a j true)) ∧ Hid (Only2 b f w wr)) (fun at' _ => a + k - (intOf at').toNat)
  case atStart => exact ⟨0, by go_num, Nat.zero_le _, HR, HH, by unfold Hid; rw [putB_zero]; exact HF.out, HO⟩
  case round =>
    obtain ⟨j, rfl, hjk, hRw, hHw, hFw, hOw⟩ := hrel
    by_cases hlt : j < k
    · have hs : World.cell? wr ⟨q, 1, none⟩ = some (.slice (some ⟨f, 0, none⟩) (wn n) cap) := by rw [cell_of_row wr q _ _ _ _ hHw.out]; rfl
      have hq : ((a + j : Nat) : Int).tdiv 64 = (((a + j) / 64 : Nat) : Int) := Int.ofNat_tdiv (a + j) 64
      have hwl : (a + j) / 64 < wn n := wn_lt (by omega)
      have hcell := hFw.out.c_cell ((a + j) / 64) hwl
      have hfree := hFw.out.c_free ((a + j) / 64)
      have HTj : ∀ i, n ≤ i → putB B a j true i = false := fun i hi => by unfold putB; rw [if_neg (by omega)]; exact HT.out i hi
      have HBj : putB B a j true (a + j) = false := by unfold putB; rw [if_neg (by omega)]; exact HB.out _ (by omega) (by omega)
      have hset := fr_set HTj (show a + j < n by omega) HBj
      rw [putB_more] at hset
      have hle := fr_le (putB B a j true) n ((a + j) / 64)
      have h1 := hset ((a + j) / 64)
      rw [if_pos rfl] at h1
      have HF2 : Hid (∀ x : Nat, fr (putB B a j true) n ((a + j) / 64) = x + 1 → FreeAt (wr.setCell ⟨f, (a + j) / 64, none⟩ (.int .i64 (x : Nat))) f n (putB B a (j + 1) true)) := fun x hx =>
        hFw.out.put _ x hwl (by omega) (fun c hc => by have := hset c; rw [if_neg hc] at this; omega)
      have HR2 : Hid (∀ u, RowAt (wr.setCell ⟨f, (a + j) / 64, none⟩ u) p b n (putB B a k true)) := fun u => hRw.out.same (Below.heap_setCell wr _ u p HN.out.2.1) (Below.heap_setCell wr _ u b HN.out.2.2)
      have HH2 : Hid (∀ u, (wr.setCell ⟨f, (a + j) / 64, none⟩ u).heap[q]? = some (.cells #[.pointer (some ⟨p, 0, none⟩), .slice (some ⟨f, 0, none⟩) (wn n) cap] 58 (0, 0))) := fun u => (Below.heap_setCell wr _ u q HN.out.1).trans hHw.out
      have HO2 : Hid (∀ u, Only2 b f w (wr.setCell ⟨f, (a + j) / 64, none⟩ u)) := fun u => hOw.out.setCell _ u
      obtain ⟨x, hx⟩ : ∃ x, fr (putB B a j true) n ((a + j) / 64) = x + 1 := ⟨fr (putB B a (j + 1) true) n ((a + j) / 64), h1⟩
      have HF3 := HF2.out x hx
      have HF4 : Hid (FreeAt (wr.setCell ⟨f, (a + j) / 64, none⟩ (.int .i64 (x : Nat))) f n (putB B a (j + 1) true)) := HF3
      rw [hx] at hcell hle
      have HJ : Hid (∀ y, a + j = y → y + 1 = a + (j + 1)) := fun y hy => by omega
      have hq16 : (a + j) / 64 < 65536 := by omega
      clear h1 hset HF2 HF3 hx HTj HBj
      have hxk : a + j < a + k := by omega
      generalize hy : a + j = y at *
      have HY : Hid (a + j = y) := hy
      generalize y / 64 = d at *
      clear hy
      go_wp2
      go_roundw
      case rel => exact ⟨j + 1, by rw [← HJ.out _ rfl]; go_num, by omega, HR2.out _, HH2.out _, by unfold Hid; simpa using HF4.out, HO2.out _⟩
      case measure => simp [intOf]; omega
    · obtain rfl : j = k := by omega
      go_wp2
      go_ret
      exact ⟨rfl, ⟨hHw.out, hRw.out, hFw.out, HP.out.1, HP.out.2⟩, hOw.out⟩
theorem take_taken (w : World) (q p b f cap n : Nat) (B : Nat → Bool) (s : Nat) (h : BoardAt w q p b f cap n B) (ht : Steps w) (hs : s < n) (hB : B s = true) :
    Calls Tryd.prog 24 #[.pointer (some ⟨q, 0, none⟩), .int .i64 (s : Nat), .int .i64 1] w fun x w' => x = .returned (.int .i64 2) ∧ w' = w := by
  have hp := h.p_cell
  have HC : Hid (Calls Tryd.prog 34 #[.pointer (some ⟨p, 0, none⟩), .int .i64 (s : Nat), .int .i64 1] w fun x w' => x = .returned (.int .i64 2) ∧ w' = w) := set_no w p b n B s 1 s h.row ht (by omega) (Nat.le_refl _) (by omega) hB
  clear h ht
  go_enter Tryd.func24, Tryd.ntmps24
  go_wp2_with fail
  refine HC.out.mono ?_
  rintro e w1 ⟨rfl, rfl⟩
  go_wp2
  go_ret
  exact ⟨rfl, rfl⟩
theorem take_off (w : World) (q p b f cap n : Nat) (B : Nat → Bool) (a : Int) (h : BoardAt w q p b f cap n B) (hm : -9223372036854775808 ≤ a) (hx : a ≤ 9223372036854775807) (ha : a < 0 ∨ (n : Int) ≤ a) :
    Calls Tryd.prog 24 #[.pointer (some ⟨q, 0, none⟩), .int .i64 a, .int .i64 1] w fun x w' => x = .returned (.int .i64 2) ∧ w' = w := by
  have hp := h.p_cell
  have HC : Hid (Calls Tryd.prog 34 #[.pointer (some ⟨p, 0, none⟩), .int .i64 a, .int .i64 1] w fun x w' => x = .returned (.int .i64 2) ∧ w' = w) := set_off w p b n B a h.row hm hx ha
  clear h ha
  go_enter Tryd.func24, Tryd.ntmps24
  go_wp2_with fail
  refine HC.out.mono ?_
  rintro e w1 ⟨rfl, rfl⟩
  go_wp2
  go_ret
  exact ⟨rfl, rfl⟩
set_option maxRecDepth 20000 in
set_option maxHeartbeats 1000000 in
theorem give_ok (w : World) (q p b f cap n : Nat) (B : Nat → Bool) (s : Nat) (h : BoardAt w q p b f cap n B) (ht : Steps w) (hs : s < n) (hB : B s = true) :
    Calls Tryd.prog 29 #[.pointer (some ⟨q, 0, none⟩), .int .i64 (s : Nat)] w fun x w' => x = .returned (.int .i64 0) ∧ BoardAt w' q p b f cap n (putB B s 1 false) ∧ Only2 b f w w' := by
  have hp := h.p_cell
  have hn := h.row.small
  have H : Hid (BoardAt w q p b f cap n B) := h
  have HC : Hid (Calls Tryd.prog 36 #[.pointer (some ⟨p, 0, none⟩), .int .i64 (s : Nat), .int .i64 1] w fun x w' => x = .returned (.int .i64 0) ∧ RowAt w' p b n (putB B s 1 false) ∧ Only b w w') := clear_ok w p b n B s 1 h.row ht (by omega) (fun i h1 h2 => by rw [show i = s by omega]; exact hB)
  clear h ht
  go_enter Tryd.func29, Tryd.ntmps29
  go_wp2_with fail
  refine HC.out.mono ?_
  rintro e w1 ⟨rfl, hR, hO⟩
  obtain ⟨n1, n2, n3, n4, n5⟩ := head_off H.out.head H.out.row H.out.nums
  have HH : w1.heap[q]? = some (.cells #[.pointer (some ⟨p, 0, none⟩), .slice (some ⟨f, 0, none⟩) (wn n) cap] 58 (0, 0)) := (hO.heap H.out.q_lt n2).trans H.out.head
  have HF : FreeAt w1 f n B := H.out.nums.same (hO.heap H.out.nums.lt (fun e => n5 e.symm))
  have hsl : World.cell? w1 ⟨q, 1, none⟩ = some (.slice (some ⟨f, 0, none⟩) (wn n) cap) := by rw [cell_of_row w1 q _ _ _ _ HH]; rfl
  have hq : ((s : Nat) : Int).tdiv 64 = ((s / 64 : Nat) : Int) := Int.ofNat_tdiv s 64
  have hwl : s / 64 < wn n := wn_lt hs
  have hcell := HF.c_cell (s / 64) hwl
  have hfree := HF.c_free (s / 64)
  have hset := fr_clear H.out.row.tail hs hB
  have hle := fr_le B n (s / 64)
  have h1 := hset (s / 64)
  rw [if_pos rfl] at h1
  have HB2 : Hid (BoardAt (w1.setCell ⟨f, s / 64, none⟩ (.int .i64 ((fr B n (s / 64) + 1 : Nat) : Int))) q p b f cap n (putB B s 1 false)) :=
    ⟨(Below.heap_setCell w1 _ _ q n3).trans HH, hR.same (Below.heap_setCell w1 _ _ p n4) (Below.heap_setCell w1 _ _ b n5), HF.put _ _ hwl h1 (fun c hc => by have := hset c; rw [if_neg hc] at this; omega), H.out.pos, H.out.room⟩
  have HO2 : Hid (∀ u, Only2 b f w (w1.setCell ⟨f, s / 64, none⟩ u)) := fun u => (Only2.ofOne hO).setCell _ u
  have hq16 : s / 64 < 65536 := by omega
  clear hR hO n1 n2 n3 n4 n5 hp HH HF hset h1 hB
  generalize fr B n (s / 64) = x at *
  generalize s / 64 = d at *
  go_wp2
  go_ret
  exact ⟨rfl, by simpa using HB2.out, HO2.out _⟩
theorem give_free (w : World) (q p b f cap n : Nat) (B : Nat → Bool) (s : Nat) (h : BoardAt w q p b f cap n B) (ht : Steps w) (hs : s < n) (hB : B s = false) :
    Calls Tryd.prog 29 #[.pointer (some ⟨q, 0, none⟩), .int .i64 (s : Nat)] w fun x w' => x = .returned (.int .i64 2) ∧ w' = w := by
  have hp := h.p_cell
  have HC : Hid (Calls Tryd.prog 36 #[.pointer (some ⟨p, 0, none⟩), .int .i64 (s : Nat), .int .i64 1] w fun x w' => x = .returned (.int .i64 2) ∧ w' = w) := clear_no w p b n B s 1 s h.row ht (by omega) (Nat.le_refl _) (by omega) hB
  clear h ht
  go_enter Tryd.func29, Tryd.ntmps29
  go_wp2_with fail
  refine HC.out.mono ?_
  rintro e w1 ⟨rfl, rfl⟩
  go_wp2
  go_ret
  exact ⟨rfl, rfl⟩
theorem give_off (w : World) (q p b f cap n : Nat) (B : Nat → Bool) (a : Int) (h : BoardAt w q p b f cap n B) (hm : -9223372036854775808 ≤ a) (hx : a ≤ 9223372036854775807) (ha : a < 0 ∨ (n : Int) ≤ a) :
    Calls Tryd.prog 29 #[.pointer (some ⟨q, 0, none⟩), .int .i64 a] w fun x w' => x = .returned (.int .i64 2) ∧ w' = w := by
  have hp := h.p_cell
  have HC : Hid (Calls Tryd.prog 36 #[.pointer (some ⟨p, 0, none⟩), .int .i64 a, .int .i64 1] w fun x w' => x = .returned (.int .i64 2) ∧ w' = w) := clear_off w p b n B a h.row hm hx ha
  clear h ha
  go_enter Tryd.func29, Tryd.ntmps29
  go_wp2_with fail
  refine HC.out.mono ?_
  rintro e w1 ⟨rfl, rfl⟩
  go_wp2
  go_ret
  exact ⟨rfl, rfl⟩
end Go.Proofs.YthpodknhidgedaaDoor
