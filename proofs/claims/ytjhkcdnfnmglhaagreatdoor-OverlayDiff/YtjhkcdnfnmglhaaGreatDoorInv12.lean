/- Acts of the laws of layer 12; an overlay while a law runs. -/
import Derived.Test.YtjhkcdnfnmglhaaGreatDoorJ9
import Derived.Test.YtjhkcdnfnmglhaaGreatDoorJ2
namespace Go.Proofs.YtjhkcdnfnmglhaaGreatDoor
open Go.RowKit Go.ChangeShapes Go.WideShapes Go.Deep
set_option linter.unusedVariables false
set_option maxRecDepth 20000

/-! ### Acts -/
structure Ac12 where
  kd : Int
  h : Int
  p : Int
  u : Nat
def encA (a : Ac12) : List Value := [.int .i64 a.kd, .int .i64 a.h, .int .i64 a.p, .int .u32 (a.u : Nat)]
theorem encA_ok : EncOk encA 4 := ⟨fun _ => rfl, fun x v hv => by simp only [encA, List.mem_cons, List.not_mem_nil, or_false] at hv; rcases hv with rfl | rfl | rfl | rfl <;> rfl, by decide⟩
def AcI (a : Ac12) : Prop := I64 a.kd ∧ I64 a.h ∧ I64 a.p ∧ a.u < 4294967296
theorem Els.ac {w : World} {a : Option Addr} {n cap : Nat} {xs : List Ac12} (h : Els encA 4 w (.slice a n cap) xs) (h0 : 0 < n) : ∃ b off, a = some ⟨b, off, none⟩ ∧ b < w.heap.size ∧ ∀ j y, xs[j]? = some y →
    w.cell? ⟨b, off + j * 4, none⟩ = some (.int .i64 y.kd) ∧ w.cell? ⟨b, off + j * 4 + 1, none⟩ = some (.int .i64 y.h) ∧ w.cell? ⟨b, off + j * 4 + 2, none⟩ = some (.int .i64 y.p) ∧ w.cell? ⟨b, off + j * 4 + 3, none⟩ = some (.int .u32 (y.u : Nat)) := by
  obtain ⟨b, off, rfl, hb, hc⟩ := h.addr h0
  exact ⟨b, off, rfl, hb, fun j y hj => ⟨hc j y hj 0 _ rfl, hc j y hj 1 _ rfl, hc j y hj 2 _ rfl, hc j y hj 3 _ rfl⟩⟩
theorem ac_at {xs : List Ac12} {j : Nat} (h : j < xs.length) : ∃ k' h' p' u', xs[j]? = some ⟨k', h', p', u'⟩ := ⟨_, _, _, _, List.getElem?_eq_getElem h⟩
theorem open_acts12 {H : Type} {tok : TypeId × Value → H} {w : World} {base : Nat} {held : Bool} {a : Option Addr} {len cap : Nat} {d : DataW H} {p : List MemPlace}
    (h : DataW.Trod tok Tryz.prog w base (fun _ => true) held 23 (.slice a len cap) d p) : ∃ xs, Els encA 4 w (.slice a len cap) xs ∧ ∀ y ∈ xs, AcI y := by
  haveI : Inhabited Ac12 := ⟨⟨0, 0, 0, 0⟩⟩
  refine open_els encA_ok AcI Tryz.underlying23 (by kernel_rfl) ?_ h
  intro n cs x hl hx
  match cs, hl with
  | [v0, v1, v2, v3], _ =>
    obtain ⟨z0, z1, z2, n1, _, _, k0, k1, k2⟩ := trod_struct3 Tryz.underlying35 hx
    have k0' : DataW.trod tok Tryz.prog w base (fun _ => true) held n1 3 [v0] = some z0 := k0
    have k1' : DataW.trod tok Tryz.prog w base (fun _ => true) held n1 32 [v1, v2] = some z1 := k1
    have k2' : DataW.trod tok Tryz.prog w base (fun _ => true) held n1 33 [v3] = some z2 := k2
    obtain ⟨a0, a1, n2, _, _, l0, l1⟩ := trod_struct2 Tryz.underlying32 k1'
    have l0' : DataW.trod tok Tryz.prog w base (fun _ => true) held n2 3 [v1] = some a0 := l0
    have l1' : DataW.trod tok Tryz.prog w base (fun _ => true) held n2 3 [v2] = some a1 := l1
    obtain ⟨i0, e0, _, w0⟩ := DataW.trod_int Tryz.underlying3 k0'
    obtain ⟨i1, e1, _, w1⟩ := DataW.trod_int Tryz.underlying3 l0'
    obtain ⟨i2, e2, _, w2⟩ := DataW.trod_int Tryz.underlying3 l1'
    obtain ⟨i3, e3, _, w3⟩ := DataW.trod_int Tryz.underlying33 k2'
    simp at e0 e1 e2 e3
    subst e0 e1 e2 e3
    have hw4 : 0 ≤ i3 ∧ i3 ≤ 4294967295 := by simpa [Lit.wf, IntKind.min, IntKind.max, IntKind.signed, IntKind.bits] using w3
    obtain ⟨u, rfl⟩ : ∃ u : Nat, i3 = (u : Int) := ⟨i3.toNat, by rw [Int.toNat_of_nonneg]; omega⟩
    refine ⟨⟨i0, i1, i2, u⟩, rfl, ?_, ?_, ?_, by simp only; omega⟩
    · simpa [Lit.wf, IntKind.min, IntKind.max, IntKind.signed, IntKind.bits, I64] using w0
    · simpa [Lit.wf, IntKind.min, IntKind.max, IntKind.signed, IntKind.bits, I64] using w1
    · simpa [Lit.wf, IntKind.min, IntKind.max, IntKind.signed, IntKind.bits, I64] using w2

/-! ### The overlay while a law runs -/
theorem retire_n12 (O : Ov) (k : Ky) : (retireO O k).n = O.n := (retire_n O k).1
theorem put_n {O O' : Ov} {k : Ky} {x : Ent} {err : Int} (h : PutRel O k O' x err) : O'.n = O.n := by
  rcases h with ⟨_, rfl, _⟩ | ⟨_, e, _, rfl, _⟩ | ⟨_, _, _, rfl, _⟩ | ⟨_, _, s, _, rfl, _⟩
  · rfl
  · rfl
  · rfl
  · exact retire_n12 O k
theorem drop_n (O : Ov) (k : Ky) : (dropO O k).1.n = O.n := by
  unfold dropO
  cases findM O.fresh k with
  | none => exact retire_n12 O k
  | some e => exact retire_n12 _ k
theorem sum_n (O : Ov) (k : Ky) (u : Nat) : (sumO O k u).1.n = O.n := by
  unfold sumO
  cases findM O.fresh k <;> rfl
/-- w: the world ahead of the law; k slots; N: how many were taken at first; j: how many acts since. -/
structure OvI (w : World) (q : Nat) (s : OvB) (k N j : Nat) (O : Ov) (wr : World) : Prop where
  at_ : OvAt wr q s O
  ok : OvOk O (281474976710655 + (j : Int))
  tot : totalO O ≤ N + j
  n : O.n = k
  bel : Below w.heap.size w wr
  new : OvNewB s w.heap.size
theorem OvI.below {w wr w' : World} {q : Nat} {s : OvB} {k N j : Nat} {O : Ov} (h : OvI w q s k N j O wr) (hb : Below wr.heap.size wr w') : OvI w q s k N j O w' := ⟨h.at_.kept hb, h.ok, h.tot, h.n, h.bel.trans (hb.mono h.bel.size), h.new⟩
theorem OvI.more {w wr : World} {q : Nat} {s : OvB} {k N j j' : Nat} {O : Ov} (h : OvI w q s k N j O wr) (hj : j ≤ j') : OvI w q s k N j' O wr := ⟨h.at_, h.ok.more (by omega), by have := h.tot; omega, h.n, h.bel, h.new⟩
theorem OvI.small {w wr : World} {q : Nat} {s : OvB} {k N j : Nat} {O : Ov} (h : OvI w q s k N j O wr) (hj : N + j ≤ 490) : OvSmall O := small_of (Nat.le_trans h.tot hj)
theorem OvI.steps {w wr : World} {q : Nat} {s : OvB} {k N j : Nat} {O : Ov} (h : OvI w q s k N j O wr) (ht : Steps w) : Steps wr := ht.below h.bel
theorem OvI.put {w wr : World} {q : Nat} {s : OvB} {k N j : Nat} {O : Ov} (I : OvI w q s k N j O wr) (ht : Steps w) (hj : N + j ≤ 480) (h p : Int) (hk : KI (h, p)) :
    Calls Tryz.prog 8 #[.pointer (some ⟨q, 0, none⟩), .agg #[.int .i64 h, .int .i64 p]] wr fun x w' => ∃ (O' : Ov) (a b : Int) (c : Nat) (err : Int), x = .returned (.tuple #[.agg #[.int .i64 a, .int .i64 b, .int .u32 (c : Nat)], .int .i64 err]) ∧ PutRel O (h, p) O' (a, b, c) err ∧ OvI w q s k N (j + 1) O' w' ∧ OvStep s wr w' :=
  (put12_out wr q s O _ h p I.at_ hk (I.small (by omega)) I.ok (I.steps ht) (by omega) (by omega)).mono fun x w' ⟨O', a, b, c, err, he, hp, ho, hs, hok, htt⟩ =>
    ⟨O', a, b, c, err, he, hp, ⟨ho, by have e : (281474976710655 + ((j + 1 : Nat) : Int)) = 281474976710655 + (j : Int) + 1 := by omega
                                       rw [e]; exact hok, by have := I.tot; omega, (put_n hp).trans I.n, I.bel.trans (hs.belowNew I.new I.bel.size), I.new⟩, hs⟩
theorem OvI.drop {w wr : World} {q : Nat} {s : OvB} {k N j : Nat} {O : Ov} (I : OvI w q s k N j O wr) (ht : Steps w) (hj : N + j ≤ 480) (h p : Int) (hk : KI (h, p)) :
    Calls Tryz.prog 10 #[.pointer (some ⟨q, 0, none⟩), .agg #[.int .i64 h, .int .i64 p]] wr fun x w' => x = .returned (.bool (dropO O (h, p)).2) ∧ OvI w q s k N j (dropO O (h, p)).1 w' ∧ OvStep s wr w' :=
  (drop12_any wr q s O _ h p I.at_ hk (I.small (by omega)) I.ok (I.steps ht) (part_i64 I.ok (c := 2) (by decide) I.ok.rf)).mono fun x w' ⟨he, ho, hs⟩ =>
    ⟨he, ⟨ho, drop_ok12 I.ok _, Nat.le_trans (total_drop I.ok _) I.tot, (drop_n O _).trans I.n, I.bel.trans (hs.belowNew I.new I.bel.size), I.new⟩, hs⟩
theorem OvI.sum {w wr : World} {q : Nat} {s : OvB} {k N j : Nat} {O : Ov} (I : OvI w q s k N j O wr) (hj : N + j ≤ 480) (h p : Int) (u : Nat) (hk : KI (h, p)) (hu : u < 4294967296) :
    Calls Tryz.prog 12 #[.pointer (some ⟨q, 0, none⟩), .agg #[.int .i64 h, .int .i64 p], .int .u32 (u : Nat)] wr fun x w' => x = .returned (.int .i64 (sumO O (h, p) u).2) ∧ OvI w q s k N j (sumO O (h, p) u).1 w' ∧ OvStep s wr w' :=
  (sum12_any wr q s O h p u I.at_ hk (I.small (by omega))).mono fun x w' ⟨he, ho, hs⟩ =>
    ⟨he, ⟨ho, sum_ok12 I.ok _ hu, Nat.le_trans (total_sum I.ok _ _) I.tot, (sum_n O _ _).trans I.n, I.bel.trans (hs.belowNew I.new I.bel.size), I.new⟩, hs⟩
theorem OvI.commit {w wr : World} {q : Nat} {s : OvB} {k N j : Nat} {O : Ov} (I : OvI w q s k N j O wr) (ht : Steps w) (hj : N + j ≤ 480) :
    Calls Tryz.prog 14 #[.pointer (some ⟨q, 0, none⟩)] wr fun x w' => x = .returned (.tuple #[]) ∧ OvI w q s k N j (commitO O) w' ∧ OvStep s wr w' :=
  (com12_any wr q s O _ I.at_ (I.small (by omega)) I.ok (I.steps ht) (part_i64 I.ok (c := 1) (by decide) I.ok.rw)).mono fun x w' ⟨he, ho, hs⟩ =>
    ⟨he, ⟨ho, commit_ok12 I.ok, Nat.le_trans (total_commit I.ok) I.tot, I.n, I.bel.trans (hs.belowNew I.new I.bel.size), I.new⟩, hs⟩
theorem OvI.parts {w wr : World} {q : Nat} {s : OvB} {k N j : Nat} {O : Ov} (I : OvI w q s k N j O wr) (hj : N + j ≤ 480) :
    Calls Tryz.prog 26 #[.pointer (some ⟨q, 0, none⟩)] wr fun x w' => ∃ u1 u2 u3, x = .returned (.tuple #[u1, u2, u3]) ∧ Nums w' u1 (slotsL O.base) ∧ Nums w' u2 (slotsL O.fresh) ∧ Nums w' u3 (slotsL O.was) ∧ Below wr.heap.size wr w' :=
  parts12_any wr q s O I.at_ (I.small (by omega)) ⟨part_i64 I.ok (c := 0) (by decide) I.ok.rb, part_i64 I.ok (c := 1) (by decide) I.ok.rw, part_i64 I.ok (c := 2) (by decide) I.ok.rf⟩
theorem OvI.free {w wr : World} {q : Nat} {s : OvB} {k N j : Nat} {O : Ov} (I : OvI w q s k N j O wr) :
    Calls Tryz.prog 46 #[.pointer (some ⟨q, 0, none⟩)] wr fun x w' => x = .returned (.int .i64 (k - totalO O : Nat)) ∧ Below wr.heap.size wr w' := by
  have := freeO12_any wr q s O I.at_
  rwa [cnt_all12 I.ok, I.n] at this
theorem OvI.committed {w wr : World} {q : Nat} {s : OvB} {k N j : Nat} {O : Ov} (I : OvI w q s k N j O wr) (hj : N + j ≤ 480) :
    Calls Tryz.prog 22 #[.pointer (some ⟨q, 0, none⟩)] wr fun x w' => ∃ u, x = .returned u ∧ Els encM 5 w' u (committedO O) ∧ Below wr.heap.size wr w' ∧ ∀ g, u.ownBlock = some g → wr.heap.size ≤ g :=
  committed12_any wr q s O _ I.at_ (I.small (by omega)) I.ok
theorem OvI.all {w wr : World} {q : Nat} {s : OvB} {k N j : Nat} {O : Ov} (I : OvI w q s k N j O wr) (hj : N + j ≤ 480) :
    Calls Tryz.prog 21 #[.pointer (some ⟨q, 0, none⟩)] wr fun x w' => ∃ u, x = .returned u ∧ Els encM 5 w' u (allO O) ∧ Below wr.heap.size wr w' ∧ ∀ g, u.ownBlock = some g → wr.heap.size ≤ g :=
  all12_any wr q s O _ I.at_ (I.small (by omega)) I.ok
theorem OvI.diff {w wr : World} {q : Nat} {s : OvB} {k N j : Nat} {O : Ov} (I : OvI w q s k N j O wr) (hj : N + j ≤ 480) :
    Calls Tryz.prog 25 #[.pointer (some ⟨q, 0, none⟩)] wr fun x w' => ∃ u v, x = .returned (.tuple #[u, v]) ∧ Els encM 5 w' u O.fresh ∧ Keys w' v (goneL O) ∧ Below wr.heap.size wr w' ∧ (∀ g, u.ownBlock = some g → wr.heap.size ≤ g) ∧ ∀ g, v.ownBlock = some g → wr.heap.size ≤ g :=
  diff12_any wr q s O _ I.at_ (I.small (by omega)) I.ok
/-- What New leaves of nothing. -/
theorem newI (w w1 : World) (k : Nat) (ht : Steps w) (hb : Below w.heap.size w w1) (h1 : 1 ≤ k) (h2 : k ≤ 65536) :
    Calls Tryz.prog 6 #[.int .i64 (k : Nat), .slice none 0 0] w1 fun x w' => ∃ q s, x = .returned (.tuple #[.pointer (some ⟨q, 0, none⟩), .int .i64 0]) ∧ OvI w q s k 0 0 (newO k []) w' := by
  refine (new12_any w1 k (.slice none 0 0) [] (Els.nil w1) (by decide) (by simp) (ht.below hb) (by unfold I64; omega)).mono ?_
  rintro x w' ⟨hb1, ⟨-, -, -, q, s, rfl, ho, hn, -⟩ | ⟨hno, -⟩⟩
  · rw [Int.toNat_natCast] at ho
    obtain ⟨a, b, c, d, e⟩ := hn
    have hsz := hb.size
    exact ⟨q, s, rfl, ho, newO_ok h1 h2, Nat.le_refl _, rfl, hb.trans (hb1.mono hb.size), ⟨by omega, by omega, by omega, by omega, by omega⟩⟩
  · exact absurd ⟨by omega, by omega, rfl⟩ hno
end Go.Proofs.YtjhkcdnfnmglhaaGreatDoor
