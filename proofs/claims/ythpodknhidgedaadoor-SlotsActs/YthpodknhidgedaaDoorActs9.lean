/- What Take, Run and Give answer, of a board and of the document's one beside it; acts that came in. -/
import Derived.Test.YthpodknhidgedaaDoorRefT9
import Derived.Test.YthpodknhidgedaaDoorRefG9
import Derived.Test.YthpodknhidgedaaDoorLawFew9
import Derived.Deep.Strs
import Derived.ChangeArms
import Derived.DataReads
import Derived.OrdersHeld
namespace Go.Proofs.YthpodknhidgedaaDoor
open Go.ChangeShapes Go.WideShapes Go.RowKit Go.Deep
set_option linter.unusedVariables false

def TakeRel (B : Nat → Bool) (n : Nat) (a : Int) (e : Nat) (B' : Nat → Bool) : Prop :=
  (∃ s : Nat, a = (s : Int) ∧ e = 0 ∧ IsTake B n s ∧ B' = putB B s 1 true) ∨ (a = 0 ∧ e = 12 ∧ (∀ i, i < n → B i = true) ∧ B' = B)
def RunRel (B : Nat → Bool) (n : Nat) (k : Int) (a : Int) (e : Nat) (B' : Nat → Bool) : Prop :=
  ((k < 1 ∨ 64 < k) ∧ a = 0 ∧ e = 2 ∧ B' = B) ∨ ∃ c : Nat, k = (c : Int) ∧ 1 ≤ c ∧ c ≤ 64 ∧ ((∃ s : Nat, a = (s : Int) ∧ e = 0 ∧ IsRun B n c s ∧ B' = putB B s c true) ∨ (a = 0 ∧ e = 12 ∧ NoRun B n c ∧ B' = B))
def GiveRel (B : Nat → Bool) (n : Nat) (zs : List Int) (e : Nat) (B' : Nat → Bool) : Prop :=
  (GoodG n B zs ∧ e = 0 ∧ B' = giveB B zs) ∨ (¬ GoodG n B zs ∧ e = 2 ∧ B' = B)
theorem act_take (w : World) (q p b f cap n : Nat) (B : Nat → Bool) (h : BoardAt w q p b f cap n B) (ht : Steps w) :
    Calls Tryd.prog 11 #[.pointer (some ⟨q, 0, none⟩)] w fun x w' => ∃ (a : Int) (e : Nat) (B' : Nat → Bool), e ≤ 12 ∧ x = .returned (.tuple #[.int .i64 a, .int .i64 (e : Nat)]) ∧ TakeRel B n a e B' ∧ BoardAt w' q p b f cap n B' ∧ Only2 b f w w' :=
  (take_any w q p b f cap n B h ht).mono fun x w' hx => by
    rcases hx with ⟨s, rfl, h1, h2, h3⟩ | ⟨rfl, h1, rfl⟩
    · exact ⟨(s : Int), 0, _, by omega, rfl, .inl ⟨s, rfl, rfl, h1, rfl⟩, h2, h3⟩
    · exact ⟨0, 12, B, by omega, rfl, .inr ⟨rfl, rfl, h1, rfl⟩, h, Only2.refl _ _ _⟩
theorem act_refTake (w : World) (p b n : Nat) (B B' : Nat → Bool) (a : Int) (e : Nat) (h : RefB w p b n B) (hn : n ≤ 65536) (ht : ∀ i, n ≤ i → B i = false) (hr : TakeRel B n a e B') :
    Calls Tryd.prog 12 #[.pointer (some ⟨p, 0, none⟩)] w fun x w' => x = .returned (.tuple #[.int .i64 a, .int .i64 (e : Nat)]) ∧ RefB w' p b n B' ∧ Only b w w' :=
  (refTake_any w p b n B h hn ht).mono fun x w' hx => by
    rcases hx with ⟨s, rfl, h1, h2, h3⟩ | ⟨rfl, h1, h2, h3⟩
    · rcases hr with ⟨t, rfl, rfl, k1, rfl⟩ | ⟨_, _, k1, _⟩
      · obtain rfl := h1.same ht k1
        exact ⟨rfl, h2, h3⟩
      · have := k1 s h1.lt
        rw [h1.free] at this; cases this
    · rcases hr with ⟨t, rfl, rfl, k1, rfl⟩ | ⟨rfl, rfl, k1, rfl⟩
      · have := h1 t k1.lt
        rw [k1.free] at this; cases this
      · exact ⟨rfl, h2, h3⟩
theorem act_run (w : World) (q p b f cap n : Nat) (B : Nat → Bool) (k : Int) (h : BoardAt w q p b f cap n B) (ht : Steps w) :
    Calls Tryd.prog 13 #[.pointer (some ⟨q, 0, none⟩), .int .i64 k] w fun x w' => ∃ (a : Int) (e : Nat) (B' : Nat → Bool), e ≤ 12 ∧ x = .returned (.tuple #[.int .i64 a, .int .i64 (e : Nat)]) ∧ RunRel B n k a e B' ∧ BoardAt w' q p b f cap n B' ∧ Only2 b f w w' := by
  by_cases hk : k < 1 ∨ 64 < k
  · exact (run_arg w q k hk).mono fun x w' hx => by
      obtain ⟨rfl, rfl⟩ := hx
      exact ⟨0, 2, B, by omega, rfl, .inl ⟨hk, rfl, rfl, rfl⟩, h, Only2.refl _ _ _⟩
  · obtain ⟨c, rfl⟩ : ∃ c : Nat, k = (c : Int) := ⟨k.toNat, by rw [Int.toNat_of_nonneg]; omega⟩
    exact (run_any w q p b f cap n B c h ht (by omega) (by omega)).mono fun x w' hx => by
      rcases hx with ⟨s, rfl, h1, h2, h3⟩ | ⟨rfl, h1, rfl⟩
      · exact ⟨(s : Int), 0, _, by omega, rfl, .inr ⟨c, rfl, by omega, by omega, .inl ⟨s, rfl, rfl, h1, rfl⟩⟩, h2, h3⟩
      · exact ⟨0, 12, B, by omega, rfl, .inr ⟨c, rfl, by omega, by omega, .inr ⟨rfl, rfl, h1, rfl⟩⟩, h, Only2.refl _ _ _⟩
theorem act_refRun (w : World) (p b n : Nat) (B B' : Nat → Bool) (k a : Int) (e : Nat) (h : RefB w p b n B) (hn : n ≤ 65536) (hr : RunRel B n k a e B') :
    Calls Tryd.prog 14 #[.pointer (some ⟨p, 0, none⟩), .int .i64 k] w fun x w' => x = .returned (.tuple #[.int .i64 a, .int .i64 (e : Nat)]) ∧ RefB w' p b n B' ∧ Only b w w' := by
  rcases hr with ⟨hk, rfl, rfl, rfl⟩ | ⟨c, rfl, hc1, hc2, hr⟩
  · exact (refRun_arg w p k hk).mono fun x w' hx => by
      obtain ⟨rfl, rfl⟩ := hx
      exact ⟨rfl, h, Only.refl _ _⟩
  · exact (refRun_any w p b n B c h hn hc1 hc2).mono fun x w' hx => by
      rcases hx with ⟨s, rfl, h1, h2, h3⟩ | ⟨rfl, h1, rfl⟩
      · rcases hr with ⟨t, rfl, rfl, k1, rfl⟩ | ⟨_, _, k1, _⟩
        · obtain rfl := h1.same k1
          exact ⟨rfl, h2, h3⟩
        · exact (k1.no h1).elim
      · rcases hr with ⟨t, rfl, rfl, k1, rfl⟩ | ⟨rfl, rfl, k1, rfl⟩
        · exact (h1.no k1).elim
        · exact ⟨rfl, h, Only.refl _ _⟩
theorem act_give (w : World) (q p b f cap n : Nat) (B : Nat → Bool) (v : Value) (zs : List Int) (h : BoardAt w q p b f cap n B) (ht : Steps w) (hv : Nums w v zs) (hgb : v.ownBlock ≠ some b) (hgf : v.ownBlock ≠ some f) (h0 : 0 < b ∧ 0 < f) :
    Calls Tryd.prog 15 #[.pointer (some ⟨q, 0, none⟩), v] w fun x w' => ∃ (e : Nat) (B' : Nat → Bool), e ≤ 12 ∧ x = .returned (.int .i64 (e : Nat)) ∧ GiveRel B n zs e B' ∧ BoardAt w' q p b f cap n B' ∧ Only2 b f w w' :=
  (give_any w q p b f cap n B v zs h ht hv hgb hgf h0).mono fun x w' hx => by
    obtain ⟨⟨h1, rfl, h2⟩ | ⟨h1, rfl, h2⟩, h3⟩ := hx
    · exact ⟨0, _, by omega, rfl, .inl ⟨h1, rfl, rfl⟩, h2, h3⟩
    · exact ⟨2, _, by omega, rfl, .inr ⟨h1, rfl, rfl⟩, h2, h3⟩
theorem act_refGive (w : World) (p b n : Nat) (B B' : Nat → Bool) (v : Value) (zs : List Int) (e : Nat) (h : RefB w p b n B) (hn : n ≤ 65536) (hv : Nums w v zs) (hvb : zs ≠ [] → v.ownBlock ≠ some b) (hr : GiveRel B n zs e B') :
    Calls Tryd.prog 16 #[.pointer (some ⟨p, 0, none⟩), v] w fun x w' => x = .returned (.int .i64 (e : Nat)) ∧ RefB w' p b n B' ∧ Only b w w' :=
  (refGive_any w p b n B v zs h hn hv hvb).mono fun x w' hx => by
    obtain ⟨⟨h1, rfl, h2⟩ | ⟨h1, rfl, h2⟩, h3⟩ := hx
    · rcases hr with ⟨_, rfl, rfl⟩ | ⟨k1, _⟩
      · exact ⟨rfl, h2, h3⟩
      · exact absurd h1 k1
    · rcases hr with ⟨k1, _⟩ | ⟨_, rfl, rfl⟩
      · exact absurd k1 h1
      · exact ⟨rfl, h2, h3⟩

/-! ### The two boards, and an act's copy, side by side -/
def BoxAt (w : World) (X : Nat) (kd kk : Int) (lv : Value) : Prop := w.heap[X]? = some (.cells #[.int .i64 kd, .int .i64 kk, lv] 33 (0, 0))
/-- The board has B', the document's has B yet. -/
structure HalfW (w : World) (q p b f cap n rp rb X : Nat) (kd kk : Int) (lv : Value) (B B' : Nat → Bool) (W : World) : Prop where
  board : BoardAt W q p b f cap n B'
  ref : RefB W rp rb n B
  box : BoxAt W X kd kk lv
  bel : Below w.heap.size w W
theorem HalfW.below {w W W' : World} {q p b f cap n rp rb X : Nat} {kd kk : Int} {lv : Value} {B B' : Nat → Bool} (h : HalfW w q p b f cap n rp rb X kd kk lv B B' W) (hb : Below W.heap.size W W') : HalfW w q p b f cap n rp rb X kd kk lv B B' W' :=
  ⟨h.board.below hb, h.ref.below hb, (hb.block _ (lt_of_heap h.box)).trans h.box, h.bel.trans (hb.mono h.bel.size)⟩
theorem HalfW.two {w W W' : World} {q p b f cap n rp rb X : Nat} {kd kk : Int} {lv : Value} {B C B' : Nat → Bool} (h : HalfW w q p b f cap n rp rb X kd kk lv B C W) (hb : BoardAt W' q p b f cap n B') (ho : Only2 b f W W') (h1 : w.heap.size ≤ b) (h2 : w.heap.size ≤ f) : HalfW w q p b f cap n rp rb X kd kk lv B B' W' := by
  obtain ⟨cur, k1, k2⟩ := h.board.nums
  exact ⟨hb, h.ref.only2 h.board ho, (ho.heap (lt_of_heap h.box) (ne_type h.box h.board.row.body (by decide)) (ne_type h.box k1 (by decide))).trans h.box, h.bel.trans (ho.below h1 h2 h.bel.size)⟩
theorem HalfW.one {w W W' : World} {q p b f cap n rp rb X : Nat} {kd kk : Int} {lv : Value} {B B' : Nat → Bool} (h : HalfW w q p b f cap n rp rb X kd kk lv B B' W) (hr : RefB W' rp rb n B') (ho : Only rb W W') (h1 : w.heap.size ≤ rb) : HalfW w q p b f cap n rp rb X kd kk lv B' B' W' :=
  ⟨h.board.only_ref h.ref ho, hr, (ho.heap (lt_of_heap h.box) (ne_type h.box h.ref.body (by decide))).trans h.box, h.bel.trans (ho.below h1 h.bel.size)⟩
/-- What the law asks of both, behind an act: how many are free, in all and by clusters; is one taken? -/
theorem HalfW.asks {w W5 : World} {q p b f cap n rp rb X : Nat} {kd kk : Int} {lv : Value} {B : Nat → Bool} (h : HalfW w q p b f cap n rp rb X kd kk lv B B W5) (hn : n ≤ 65536) :
    (∀ W, Below W5.heap.size W5 W → Calls Tryd.prog 18 #[.pointer (some ⟨q, 0, none⟩)] W fun x w' => x = .returned (.int .i64 (n - cnt B 0 n : Nat)) ∧ Below W5.heap.size W5 w') ∧
    (∀ W, Below W5.heap.size W5 W → Calls Tryd.prog 19 #[.pointer (some ⟨rp, 0, none⟩)] W fun x w' => x = .returned (.int .i64 (n - cnt B 0 n : Nat)) ∧ Below W5.heap.size W5 w') ∧
    (∀ W, Below W5.heap.size W5 W → Calls Tryd.prog 20 #[.pointer (some ⟨q, 0, none⟩)] W fun x w' => ∃ u, x = .returned u ∧ Nums w' u (frL B n (wn n)) ∧ Below W5.heap.size W5 w' ∧ Below W.heap.size W w') ∧
    (∀ W, Below W5.heap.size W5 W → Calls Tryd.prog 21 #[.pointer (some ⟨rp, 0, none⟩)] W fun x w' => ∃ u, x = .returned u ∧ Nums w' u (frL B n (wn n)) ∧ Below W5.heap.size W5 w' ∧ Below W.heap.size W w') ∧
    (∀ W, Below W5.heap.size W5 W → Calls Tryd.prog 22 #[.pointer (some ⟨q, 0, none⟩), .int .i64 kk] W fun x w' => x = .returned (.bool (decide (0 ≤ kk ∧ kk < (n : Int)) && B kk.toNat)) ∧ Below W5.heap.size W5 w') ∧
    (∀ W, Below W5.heap.size W5 W → World.cell? W ⟨X, 1, none⟩ = some (.int .i64 kk) ∧ World.cell? W ⟨X, 2, none⟩ = some lv ∧ World.cell? W ⟨rp, 0, none⟩ = some (.slice (some ⟨rb, 0, none⟩) n n) ∧ ∀ i, i < n → World.cell? W ⟨rb, i, none⟩ = some (.bool (B i))) := by
  refine ⟨fun W hW => ?_, fun W hW => ?_, fun W hW => ?_, fun W hW => ?_, fun W hW => ?_, fun W hW => ?_⟩
  · refine (free_any W q p b f cap n B (h.below hW).board).mono ?_
    rintro x w' ⟨rfl, m, rfl⟩
    exact ⟨rfl, hW.trans ((below_drewN W m).mono hW.size)⟩
  · refine (refFree_any W rp rb n B (h.below hW).ref hn).mono ?_
    rintro x w' ⟨rfl, rfl⟩
    exact ⟨rfl, hW⟩
  · refine (clusters_any W q p b f cap n B (h.below hW).board).mono ?_
    rintro x w' ⟨u, rfl, h1, h2⟩
    exact ⟨u, rfl, Nums.ofOwn h1 (frL_small _ _ _), hW.trans (h2.mono hW.size), h2⟩
  · refine (refClusters_any W rp rb n B (h.below hW).ref hn h.board.row.tail).mono ?_
    rintro x w' ⟨u, rfl, h1, h2⟩
    exact ⟨u, rfl, Nums.ofOwn h1 (frL_small _ _ _), hW.trans (h2.mono hW.size), h2⟩
  · refine (is_any W q p b f cap n B kk (h.below hW).board).mono ?_
    rintro x w' ⟨rfl, rfl⟩
    exact ⟨rfl, hW⟩
  · have hk := h.below hW
    refine ⟨?_, ?_, hk.ref.s_cell, fun i hi => hk.ref.b_cell i hi⟩
    · rw [cell_of_row W X _ _ _ _ hk.box]; rfl
    · rw [cell_of_row W X _ _ _ _ hk.box]; rfl
theorem asks_ints {W5 : World} (L : List Int) : ∀ (W : World) (u v : Value), Nums W u L → Nums W v L → Below W5.heap.size W5 W → Calls Tryd.prog 17 #[u, v] W fun x w' => x = .returned (.bool true) ∧ Below W5.heap.size W5 w' := fun W u v hu hv hW => by
  refine (ints_any W u v L L hu hv).mono ?_
  rintro x w' ⟨rfl, m, rfl⟩
  exact ⟨by rw [decide_eq_true rfl], hW.trans ((below_drewN W m).mono hW.size)⟩

/-! ### Acts that came in -/
structure Sa where
  kind : Int
  k : Int
  lv : Value
  ls : List Int
def saCells (c : Sa) : List Value := [.int .i64 c.kind, .int .i64 c.k, c.lv]
def Sacts (w : World) (v : Value) (cs : List Sa) : Prop :=
  cs.length ≤ maxLen ∧ ∃ a cap, v = .slice a cs.length cap ∧ (cs = [] ∨ ∃ b off, a = some ⟨b, off, none⟩ ∧ b < w.heap.size ∧ ∀ j c, cs[j]? = some c → (∀ i v, (saCells c)[i]? = some v → w.cell? ⟨b, off + j * 3 + i, none⟩ = some v) ∧ Nums w c.lv c.ls ∧ (∀ g, c.lv.ownBlock = some g → c.ls ≠ [] → g < w.heap.size) ∧ I64 c.kind ∧ I64 c.k)
theorem add_plain9 (b off j : Nat) : (⟨b, off, none⟩ : Addr).add j = ⟨b, off + j, none⟩ := by unfold Addr.add; split <;> simp_all
theorem open_nums {H : Type} {enc : TypeId × Value → H} {w : World} {base : Nat} {held : Bool} {fuel : Nat} {v : Value} {x : DataW H × List MemPlace} (h : DataW.trod enc Tryd.prog w base (fun _ => true) held fuel 22 [v] = some x) : ∃ zs, Nums w v zs ∧ ∀ g, v.ownBlock = some g → zs ≠ [] → g < w.heap.size := by
  rcases open_ints Tryd.underlying22 Tryd.underlying3 (by kernel_rfl) h with ⟨hcs, _⟩ | ⟨a, l, c, zs, hcs, _, hl, hm, hz, _, hcell, hwz⟩
  · simp at hcs
    subst hcs
    exact ⟨[], Nums.nil w, fun g h => by simp [Value.ownBlock] at h⟩
  · simp at hcs
    subst hcs
    have hrow := Nums.ofRow (.inr ⟨_, rfl, hl, hm, by simpa using hz, hcell, hwz⟩)
    refine ⟨_, hrow, fun g hg hne => ?_⟩
    have hl0 : 0 < l := by
      rw [← hrow.lenEq]
      exact List.length_pos_iff.2 hne
    obtain ⟨b, off, e, hlt, _⟩ := hrow.addr hl0
    cases e
    simp [Value.ownBlock] at hg
    omega
set_option maxRecDepth 20000 in
theorem open_sacts {H : Type} {enc : TypeId × Value → H} {w : World} {base : Nat} {held : Bool} {a : Option Addr} {len cap : Nat} {d : DataW H} {p : List MemPlace}
    (h : DataW.Trod enc Tryd.prog w base (fun _ => true) held 23 (.slice a len cap) d p) : ∃ cs, Sacts w (.slice a len cap) cs := by
  obtain ⟨fuel, hf⟩ := h
  rcases open_slice Tryd.underlying23 hf with ⟨hcs, _⟩ | ⟨x, l, c, m, n, D, Pl, hcs, _, hl, hm, hmm, _, hall⟩
  · simp [Value.cells] at hcs
    obtain ⟨rfl, rfl, rfl⟩ := hcs
    exact ⟨[], by simp, none, 0, rfl, .inl rfl⟩
  · simp [Value.cells] at hcs
    obtain ⟨rfl, rfl, rfl⟩ := hcs
    have hm' : m = cap := by simpa using hmm
    subst hm'
    have c3 : Tryd.prog.cellsOf 33 = 3 := by kernel_rfl
    rw [c3] at hall
    have each : ∀ i, i < len → ∃ c : Sa, (∀ j v, (saCells c)[j]? = some v → w.cell? ((x.add (i * 3)).add j) = some v) ∧ Nums w c.lv c.ls ∧ (∀ g, c.lv.ownBlock = some g → c.ls ≠ [] → g < w.heap.size) ∧ I64 c.kind ∧ I64 c.k := by
      intro i hi
      obtain ⟨cs', hc', ht'⟩ := hall i (by omega)
      obtain ⟨_, hlen, hcell⟩ := World.cells?_some hc'
      match cs', hlen with
      | [v0, v1, v2], _ =>
        obtain ⟨z0, z1, z2, n'', _, _, k0, k1, k2⟩ := trod_struct3 Tryd.underlying33 ht'
        have k0' : DataW.trod enc Tryd.prog w base (fun _ => true) held n'' 3 [v0] = some z0 := k0
        have k1' : DataW.trod enc Tryd.prog w base (fun _ => true) held n'' 3 [v1] = some z1 := k1
        have k2' : DataW.trod enc Tryd.prog w base (fun _ => true) held n'' 22 [v2] = some z2 := k2
        obtain ⟨kd, e0, _, w0⟩ := DataW.trod_int Tryd.underlying3 k0'
        obtain ⟨kk, e1, _, w1⟩ := DataW.trod_int Tryd.underlying3 k1'
        obtain ⟨ls, hls, hlt⟩ := open_nums k2'
        simp at e0 e1
        subst e0 e1
        refine ⟨⟨kd, kk, v2, ls⟩, fun j v hv => ?_, hls, hlt, ?_, ?_⟩
        · have hj : j < 3 := (List.getElem?_eq_some_iff.1 hv).1
          rw [hcell j hj]
          exact hv
        · simpa [Lit.wf, IntKind.min, IntKind.max, IntKind.signed, IntKind.bits, I64] using w0
        · simpa [Lit.wf, IntKind.min, IntKind.max, IntKind.signed, IntKind.bits, I64] using w1
    haveI : Inhabited Sa := ⟨⟨0, 0, .bool false, []⟩⟩
    obtain ⟨C, hC⟩ := choose_lt each
    have hlen : ((List.range len).map C).length = len := by simp
    unfold maxLen at hm
    refine ⟨(List.range len).map C, by rw [hlen]; unfold maxLen; omega, some x, m, by rw [hlen], ?_⟩
    by_cases h0 : len = 0
    · left; subst h0; rfl
    · right
      obtain ⟨b, off, spot⟩ := x
      have h00 := (hC 0 (by omega)).1 0 _ rfl
      have hspot : spot = none := by simpa [Addr.add] using World.cell?_spot h00
      subst hspot
      refine ⟨b, off, rfl, ?_, fun j c hj => ?_⟩
      · rw [add_plain9, add_plain9] at h00
        exact cell_lt h00
      · obtain ⟨hjl, rfl⟩ : j < len ∧ C j = c := by
          have hjl : j < len := by have := (List.getElem?_eq_some_iff.1 hj).1; rwa [hlen] at this
          refine ⟨hjl, ?_⟩
          rw [List.getElem?_map, List.getElem?_range hjl] at hj
          simpa using hj
        obtain ⟨h1, h2⟩ := hC j hjl
        refine ⟨fun i v hv => ?_, h2⟩
        have := h1 i v hv
        rwa [add_plain9, add_plain9] at this
theorem Sacts.at {w : World} {a : Option Addr} {len cap : Nat} {cs : List Sa} (h : Sacts w (.slice a len cap) cs) {j : Nat} (hj : j < len) : ∃ b off c, a = some ⟨b, off, none⟩ ∧ b < w.heap.size ∧ (∀ i v, (saCells c)[i]? = some v → w.cell? ⟨b, off + j * 3 + i, none⟩ = some v) ∧ Nums w c.lv c.ls ∧ (∀ g, c.lv.ownBlock = some g → c.ls ≠ [] → g < w.heap.size) ∧ I64 c.kind ∧ I64 c.k := by
  obtain ⟨_, a', cap', e, h2⟩ := h
  simp only [Value.slice.injEq] at e
  obtain ⟨rfl, rfl, rfl⟩ := e
  rcases h2 with rfl | ⟨b, off, rfl, hlt, hc⟩
  · simp at hj
  · exact ⟨b, off, cs[j], rfl, hlt, hc j _ (List.getElem?_eq_getElem hj)⟩
end Go.Proofs.YthpodknhidgedaaDoor
