/- The program's overlay and the document's, side by side. -/
import Derived.Test.YtjhkcdnfnmglhaaGreatDoorInv12
import Derived.Test.YtjhkcdnfnmglhaaGreatDoorJ9
namespace Go.Proofs.YtjhkcdnfnmglhaaGreatDoor
open Go.RowKit Go.Maps
set_option linter.unusedVariables false
set_option maxRecDepth 20000

/-- What the document's object lies in is none of what the program's calls turn. -/
def ApartO (R : Nat → Prop) (s : OvB) : Prop := ∀ g, R g → g ≠ s.b ∧ g ≠ s.f ∧ g ≠ s.X ∧ g ≠ s.Y ∧ g ≠ s.Z
theorem R12.ov {w w' : World} {R : Nat → Prop} {p pb b : Nat} {vB vW vF : Value} {O : Ov} {s : OvB} (h : R12 w R p pb b vB vW vF O) (hA : ApartO R s) (hs : OvStep s w w') : R12 w' R p pb b vB vW vF O :=
  h.kept hs.size fun g hg => hs.heap (h.lt g hg) (hA g hg)
theorem OvAt.only2 {w w' : World} {q : Nat} {s : OvB} {O O2 : Ov} {R : Nat → Prop} {p pb b : Nat} {vB vW vF : Value} (h : OvAt w q s O) (hR : R12 w R p pb b vB vW vF O2) (hA : ApartO R s) (ho : Only2 p b w w') : OvAt w' q s O := by
  obtain ⟨cur, h2, _⟩ := h.board.nums
  have hp := hA p hR.inP.1
  have hb := hA b hR.inP.2.2
  exact {
    head := (ho.heap h.lt (ne_type h.head hR.head (by decide)) (ne_type h.head hR.board.body (by decide))).trans h.head
    board := h.board.same (ho.heap (lt_of_heap h.board.head) (ne_type h.board.head hR.head (by decide)) (ne_type h.board.head hR.board.body (by decide))) (ho.heap (lt_of_heap h.board.row.head) (ne_type h.board.row.head hR.head (by decide)) (ne_type h.board.row.head hR.board.body (by decide))) (ho.heap (lt_of_heap h.board.row.body) hp.1.symm hb.1.symm) (ho.heap (lt_of_heap h2) hp.2.1.symm hb.2.1.symm)
    base := h.base.same (ho.heap h.base.lt hp.2.2.1.symm hb.2.2.1.symm)
    was := h.was.same (ho.heap h.was.lt hp.2.2.2.1.symm hb.2.2.2.1.symm)
    fresh := h.fresh.same (ho.heap h.fresh.lt hp.2.2.2.2.symm hb.2.2.2.2.symm)
    ne := h.ne
    pos := h.pos }
/-- The document's object while a law runs. -/
def RefI (w : World) (s : OvB) (p pb b : Nat) (O : Ov) (wr : World) : Prop := ∃ R vB vW vF, R12 wr R p pb b vB vW vF O ∧ ApartO R s ∧ w.heap.size ≤ p ∧ w.heap.size ≤ b
theorem RefI.ov {w wr w' : World} {s : OvB} {p pb b : Nat} {O : Ov} (F : RefI w s p pb b O wr) (hs : OvStep s wr w') : RefI w s p pb b O w' := by
  obtain ⟨R, vB, vW, vF, h1, h2, h3⟩ := F
  exact ⟨R, vB, vW, vF, h1.ov h2 hs, h2, h3⟩
theorem RefI.below {w wr w' : World} {s : OvB} {p pb b : Nat} {O : Ov} (F : RefI w s p pb b O wr) (hb : Below wr.heap.size wr w') : RefI w s p pb b O w' := F.ov (.ofBelow hb)
/-- Blocks of other types are as they were. -/
def KeepT (w w' : World) : Prop := ∀ (i : Nat) (C : Array Value) (T : TypeId) (g : Nat × Nat), w.heap[i]? = some (.cells C T g) → T ≠ 51 → T ≠ 4 → T ≠ 3 → T ≠ 122 → w'.heap[i]? = some (.cells C T g)
theorem KeepT.ov {w w' : World} {q : Nat} {s : OvB} {O : Ov} (hs : OvStep s w w') (hO : OvAt w q s O) : KeepT w w' := fun i C T g hi _ _ h1 h2 => hs.cellsKept hO hi h1 h2
theorem KeepT.ofBelow {w w' : World} (hb : Below w.heap.size w w') : KeepT w w' := fun i C T g hi _ _ _ _ => (hb.block i (lt_of_heap hi)).trans hi
theorem KeepT.trans {a b c : World} (h : KeepT a b) (k : KeepT b c) : KeepT a c := fun i C T g hi h1 h2 h3 h4 => k i C T g (h i C T g hi h1 h2 h3 h4) h1 h2 h3 h4
/-- A step of the document's. -/
theorem OvI.ref {w wr w' : World} {q : Nat} {s : OvB} {k N j : Nat} {O O1 O2 : Ov} {R : Nat → Prop} {p pb b : Nat} {vB vW vF : Value} (I : OvI w q s k N j O wr) (hR : R12 wr R p pb b vB vW vF O1) (hA : ApartO R s) (hp : w.heap.size ≤ p ∧ w.heap.size ≤ b) (hS : Step12 wr w' R p pb b O2) : OvI w q s k N j O w' ∧ RefI w s p pb b O2 w' ∧ KeepT wr w' := by
  obtain ⟨R', vB', vW', vF', h1, h2, h3⟩ := hS
  refine ⟨⟨I.at_.only2 hR hA h3, I.ok, I.tot, I.n, I.bel.trans (h3.below hp.1 hp.2 I.bel.size), I.new⟩, ⟨R', vB', vW', vF', h1, fun g hg => ?_, hp⟩, fun i C T g hi t1 t2 _ _ => (h3.heap (lt_of_heap hi) (ne_type hi hR.head t1) (ne_type hi hR.board.body t2)).trans hi⟩
  rcases h2 g hg with h4 | h4
  · exact hA g h4
  · obtain ⟨cur, e2, _⟩ := I.at_.board.nums
    have b1 := lt_of_heap I.at_.board.row.body
    have b2 := lt_of_heap e2
    have b3 := I.at_.base.lt
    have b4 := I.at_.was.lt
    have b5 := I.at_.fresh.lt
    exact ⟨by omega, by omega, by omega, by omega, by omega⟩
theorem lens_of {O : Ov} (h : totalO O ≤ 90) : O.base.length ≤ 100 ∧ O.was.length ≤ 99 ∧ O.fresh.length ≤ 100 := by unfold totalO at h; omega
theorem OvI.refPut {w wr : World} {q : Nat} {s : OvB} {k N j : Nat} {O O1 : Ov} {p pb b : Nat} {t : Int} (I : OvI w q s k N j O wr) (F : RefI w s p pb b O1 wr) (hok : OvOk O1 t) (h0 : 0 ≤ t) (ht : t ≤ 900000000000000) (hl : totalO O1 ≤ 90) (h l : Int) :
    Calls Tryz.prog 9 #[.pointer (some ⟨p, 0, none⟩), .agg #[.int .i64 h, .int .i64 l]] wr fun x w' => ∃ (O' : Ov) (a c : Int) (d : Nat) (err : Int), x = .returned (.tuple #[.agg #[.int .i64 a, .int .i64 c, .int .u32 (d : Nat)], .int .i64 err]) ∧ PutRel O1 (h, l) O' (a, c, d) err ∧ OvI w q s k N j O w' ∧ RefI w s p pb b O' w' ∧ KeepT wr w' := by
  obtain ⟨R, vB, vW, vF, h1, h2, h3⟩ := F
  refine (refPut12_any wr R p pb b vB vW vF O1 t h l h1 hok h0 ht (lens_of hl)).mono ?_
  rintro x w' ⟨O', ⟨a, c, d⟩, err, he, hp, hs⟩
  obtain ⟨i1, i2, i3⟩ := I.ref h1 h2 h3 hs
  exact ⟨O', a, c, d, err, he, hp, i1, i2, i3⟩
theorem OvI.refDrop {w wr : World} {q : Nat} {s : OvB} {k N j : Nat} {O O1 : Ov} {p pb b : Nat} {t : Int} (I : OvI w q s k N j O wr) (F : RefI w s p pb b O1 wr) (hok : OvOk O1 t) (ht : t ≤ 900000000000000) (hl : totalO O1 ≤ 90) (h l : Int) (hk : KI (h, l)) :
    Calls Tryz.prog 11 #[.pointer (some ⟨p, 0, none⟩), .agg #[.int .i64 h, .int .i64 l]] wr fun x w' => x = .returned (.bool (dropO O1 (h, l)).2) ∧ OvI w q s k N j O w' ∧ RefI w s p pb b (dropO O1 (h, l)).1 w' ∧ KeepT wr w' := by
  obtain ⟨R, vB, vW, vF, h1, h2, h3⟩ := F
  refine (refDrop12_any wr R p pb b vB vW vF O1 t h l h1 hok (by omega) hk (lens_of hl)).mono ?_
  rintro x w' ⟨he, hs⟩
  exact ⟨he, I.ref h1 h2 h3 hs⟩
theorem OvI.refSum {w wr : World} {q : Nat} {s : OvB} {k N j : Nat} {O O1 : Ov} {p pb b : Nat} {t : Int} (I : OvI w q s k N j O wr) (F : RefI w s p pb b O1 wr) (hok : OvOk O1 t) (ht : t ≤ 900000000000000) (hl : totalO O1 ≤ 90) (h l : Int) (u : Nat) (hu : u < 4294967296) :
    Calls Tryz.prog 13 #[.pointer (some ⟨p, 0, none⟩), .agg #[.int .i64 h, .int .i64 l], .int .u32 (u : Nat)] wr fun x w' => x = .returned (.int .i64 (sumO O1 (h, l) u).2) ∧ OvI w q s k N j O w' ∧ RefI w s p pb b (sumO O1 (h, l) u).1 w' ∧ KeepT wr w' := by
  obtain ⟨R, vB, vW, vF, h1, h2, h3⟩ := F
  refine (refSum12_any wr R p pb b vB vW vF O1 t h l u h1 hok (by omega) hu (lens_of hl).2.2).mono ?_
  rintro x w' ⟨he, hs⟩
  exact ⟨he, I.ref h1 h2 h3 hs⟩
theorem OvI.refCommit {w wr : World} {q : Nat} {s : OvB} {k N j : Nat} {O O1 : Ov} {p pb b : Nat} {t : Int} (HSO : SlotsOk12) (I : OvI w q s k N j O wr) (F : RefI w s p pb b O1 wr) (hok : OvOk O1 t) (ht : t ≤ 900000000000000) (hl : totalO O1 ≤ 90) :
    Calls Tryz.prog 15 #[.pointer (some ⟨p, 0, none⟩)] wr fun x w' => x = .returned (.tuple #[]) ∧ OvI w q s k N j O w' ∧ RefI w s p pb b (commitO O1) w' ∧ KeepT wr w' := by
  obtain ⟨R, vB, vW, vF, h1, h2, h3⟩ := F
  refine (refCommit12_of HSO wr R p pb b vB vW vF O1 t h1 hok (by omega) (lens_of hl)).mono ?_
  rintro x w' ⟨he, hs⟩
  exact ⟨he, I.ref h1 h2 h3 hs⟩
theorem RefI.get {w wr : World} {s : OvB} {O : Ov} {p pb b : Nat} (F : RefI w s p pb b O wr) (h l : Int) :
    Calls Tryz.prog 17 #[.pointer (some ⟨p, 0, none⟩), .agg #[.int .i64 h, .int .i64 l]] wr fun x w' => x = .returned (.tuple #[entV (getO12 O (h, l)), .bool (getO12 O (h, l)).isSome]) ∧ Below wr.heap.size wr w' := by
  obtain ⟨R, vB, vW, vF, h1, -⟩ := F
  exact refGet12_any wr R p pb b vB vW vF O h l h1
theorem OvI.get {w wr : World} {q : Nat} {s : OvB} {k N j : Nat} {O : Ov} (I : OvI w q s k N j O wr) (h l : Int) (hk : KI (h, l)) :
    Calls Tryz.prog 16 #[.pointer (some ⟨q, 0, none⟩), .agg #[.int .i64 h, .int .i64 l]] wr fun x w' => x = .returned (.tuple #[entV (getO12 O (h, l)), .bool (getO12 O (h, l)).isSome]) ∧ Below wr.heap.size wr w' := get12_any wr q s O h l I.at_ hk
/-- What New leaves of a list. -/
theorem newI2 (w w1 : World) (n : Int) (v : Value) (l : List Md) (ht : Steps w) (hb : Below w.heap.size w w1) (hv : Els encM 5 w1 v l) (hl : l.length ≤ 20) (hm : ∀ m ∈ l, MdI m) (hn : I64 n) :
    Calls Tryz.prog 6 #[.int .i64 n, v] w1 fun x w' => Below w1.heap.size w1 w' ∧ ((∃ (k : Nat) (q : Nat) (s : OvB), n = (k : Int) ∧ 1 ≤ k ∧ k ≤ 65536 ∧ rightM n l = true ∧ x = .returned (.tuple #[.pointer (some ⟨q, 0, none⟩), .int .i64 0]) ∧ OvI w q s k 20 0 (newO k l) w' ∧ OvNewB s w1.heap.size) ∨
      (¬ (1 ≤ n ∧ n ≤ 65536 ∧ rightM n l = true) ∧ x = .returned (.tuple #[.pointer none, .int .i64 2]))) := by
  refine (new12_any w1 n v l hv (by omega) hm (ht.below hb) hn).mono ?_
  rintro x w' ⟨hb1, ⟨h1, h2, hr, q, s, rfl, ho, hnb, -⟩ | ⟨hno, rfl⟩⟩
  · obtain ⟨k, rfl⟩ : ∃ k : Nat, n = (k : Int) := ⟨n.toNat, by omega⟩
    rw [Int.toNat_natCast] at ho
    obtain ⟨a, b, c, d, e⟩ := hnb
    have hsz := hb.size
    refine ⟨hb1, .inl ⟨k, q, s, rfl, by omega, by omega, hr, rfl, ⟨ho, ?_, ?_, rfl, hb.trans (hb1.mono hb.size), ⟨by omega, by omega, by omega, by omega, by omega⟩⟩, ⟨a, b, c, d, e⟩⟩⟩
    · exact right_ok hr (by omega) (by omega) fun m hm' => (hm m hm').2.2.2.2
    · show l.length + 0 + 0 ≤ 20 + 0
      omega
  · exact ⟨hb1, .inr ⟨hno, rfl⟩⟩
/-- What the document's New leaves, beside the program's. -/
theorem OvI.refNew {w wr : World} {q : Nat} {s : OvB} {k N j : Nat} {O : Ov} (I : OvI w q s k N j O wr) (n : Nat) (v : Value) (l : List Md) (hv : Els encM 5 wr v l) (hl : l.length ≤ 20) (hm : ∀ m ∈ l, MdI m) (hn1 : 1 ≤ n) (hn : n ≤ 65536) (hr : rightM n l = true) (hold : ∀ g, OwnsL l v g → g < w.heap.size) :
    Calls Tryz.prog 7 #[.int .i64 (n : Nat), v] wr fun x w' => ∃ p pb b, x = .returned (.pointer (some ⟨p, 0, none⟩)) ∧ OvI w q s k N j O w' ∧ RefI w s p pb b (newO n l) w' := by
  refine (refNew12_good wr n v l hv (by omega) hm hn1 hn hr (right_good hr)).mono ?_
  rintro x w' ⟨hb, R, p, pb, b, rfl, h1, h2⟩
  obtain ⟨cur, e2, _⟩ := I.at_.board.nums
  have b1 := lt_of_heap I.at_.board.row.body
  have b2 := lt_of_heap e2
  have b3 := I.at_.base.lt
  have b4 := I.at_.was.lt
  have b5 := I.at_.fresh.lt
  obtain ⟨n1, n2, n3, n4, n5⟩ := I.new
  have hsz := I.bel.size
  have hp : ∀ g, R g → g ≠ s.b ∧ g ≠ s.f ∧ g ≠ s.X ∧ g ≠ s.Y ∧ g ≠ s.Z := fun g hg => by
    rcases h2 g hg with h3 | h3
    · exact ⟨by omega, by omega, by omega, by omega, by omega⟩
    · have := hold g h3
      exact ⟨by omega, by omega, by omega, by omega, by omega⟩
  have big : ∀ g, R g → (∀ h, OwnsL l v h → h ≠ g) → w.heap.size ≤ g := fun g hg hno => by
    rcases h2 g hg with h3 | h3
    · omega
    · exact absurd rfl (hno g h3)
  refine ⟨p, pb, b, rfl, I.below hb, R, _, _, _, h1, hp, ?_, ?_⟩
  · exact big p h1.inP.1 fun h hh => (h1.own h (.inl hh)).2.1
  · exact big b h1.inP.2.2 fun h hh => (h1.own h (.inl hh)).2.2
end Go.Proofs.YtjhkcdnfnmglhaaGreatDoor
