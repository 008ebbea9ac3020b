/- Mapped pages in plain numbers; slices of them; the document's Same and Find. -/
import Derived.Test.YtfclhehpbniapaaEls
import Derived.Test.YtfclhehpbniapaaRefHas10
namespace Go.Proofs.Ytfclhehpbniapaa
open Go.RowKit Go.ChangeShapes Go.WideShapes Go.Deep
set_option linter.unusedVariables false

/-- A mapped page: heap, page, slot, gen, sum. -/
structure Md where
  h : Int
  p : Int
  s : Int
  g : Int
  u : Nat
theorem md_inh : Nonempty (Inhabited Md) := ⟨⟨⟨0, 0, 0, 0, 0⟩⟩⟩
/-- Its key. -/
def Md.k (m : Md) : Ky := (m.h, m.p)
def encM (m : Md) : List Value := [.int .i64 m.h, .int .i64 m.p, .int .i64 m.s, .int .i64 m.g, .int .u32 (m.u : Nat)]
theorem encM_ok : EncOk encM 5 := ⟨fun _ => rfl, fun x v hv => by simp only [encM, List.mem_cons, List.not_mem_nil, or_false] at hv; rcases hv with rfl | rfl | rfl | rfl | rfl <;> rfl, by decide⟩
def MdI (m : Md) : Prop := I64 m.h ∧ I64 m.p ∧ I64 m.s ∧ I64 m.g ∧ m.u < 4294967296
theorem md_eta (m : Md) : (⟨m.h, m.p, m.s, m.g, m.u⟩ : Md) = m := rfl
/-- The cells of an element. -/
theorem Els.md {w : World} {a : Option Addr} {n cap : Nat} {xs : List Md} (h : Els encM 5 w (.slice a n cap) xs) (h0 : 0 < n) : ∃ b off, a = some ⟨b, off, none⟩ ∧ b < w.heap.size ∧ ∀ j y, xs[j]? = some y →
    w.cell? ⟨b, off + j * 5, none⟩ = some (.int .i64 y.h) ∧ w.cell? ⟨b, off + j * 5 + 1, none⟩ = some (.int .i64 y.p) ∧ w.cell? ⟨b, off + j * 5 + 2, none⟩ = some (.int .i64 y.s) ∧ w.cell? ⟨b, off + j * 5 + 3, none⟩ = some (.int .i64 y.g) ∧ w.cell? ⟨b, off + j * 5 + 4, none⟩ = some (.int .u32 (y.u : Nat)) := by
  obtain ⟨b, off, rfl, hb, hc⟩ := h.addr h0
  exact ⟨b, off, rfl, hb, fun j y hj => ⟨hc j y hj 0 _ rfl, hc j y hj 1 _ rfl, hc j y hj 2 _ rfl, hc j y hj 3 _ rfl, hc j y hj 4 _ rfl⟩⟩
set_option maxRecDepth 20000 in
theorem open_mds {H : Type} {tok : TypeId × Value → H} {w : World} {base : Nat} {held : Bool} {a : Option Addr} {len cap : Nat} {d : DataW H} {p : List MemPlace}
    (h : DataW.Trod tok Try.prog w base (fun _ => true) held 22 (.slice a len cap) d p) : ∃ xs, Els encM 5 w (.slice a len cap) xs ∧ ∀ y ∈ xs, MdI y := by
  haveI : Inhabited Md := ⟨⟨0, 0, 0, 0, 0⟩⟩
  refine open_els encM_ok MdI Try.underlying22 (by kernel_rfl) ?_ h
  intro n cs x hl hx
  match cs, hl with
  | [v0, v1, v2, v3, v4], _ =>
    obtain ⟨z0, z1, n1, _, _, k0, k1⟩ := trod_struct2 Try.underlying41 hx
    have k0' : DataW.trod tok Try.prog w base (fun _ => true) held n1 36 [v0, v1] = some z0 := k0
    have k1' : DataW.trod tok Try.prog w base (fun _ => true) held n1 39 [v2, v3, v4] = some z1 := k1
    obtain ⟨a0, a1, n2, _, _, l0, l1⟩ := trod_struct2 Try.underlying36 k0'
    have l0' : DataW.trod tok Try.prog w base (fun _ => true) held n2 3 [v0] = some a0 := l0
    have l1' : DataW.trod tok Try.prog w base (fun _ => true) held n2 3 [v1] = some a1 := l1
    obtain ⟨b0, b1, b2, n3, _, _, m0, m1, m2⟩ := trod_struct3 Try.underlying39 k1'
    have m0' : DataW.trod tok Try.prog w base (fun _ => true) held n3 3 [v2] = some b0 := m0
    have m1' : DataW.trod tok Try.prog w base (fun _ => true) held n3 3 [v3] = some b1 := m1
    have m2' : DataW.trod tok Try.prog w base (fun _ => true) held n3 37 [v4] = some b2 := m2
    obtain ⟨i0, e0, _, w0⟩ := DataW.trod_int Try.underlying3 l0'
    obtain ⟨i1, e1, _, w1⟩ := DataW.trod_int Try.underlying3 l1'
    obtain ⟨i2, e2, _, w2⟩ := DataW.trod_int Try.underlying3 m0'
    obtain ⟨i3, e3, _, w3⟩ := DataW.trod_int Try.underlying3 m1'
    obtain ⟨i4, e4, _, w4⟩ := DataW.trod_int Try.underlying37 m2'
    simp at e0 e1 e2 e3 e4
    subst e0 e1 e2 e3 e4
    have hw4 : 0 ≤ i4 ∧ i4 ≤ 4294967295 := by simpa [Lit.wf, IntKind.min, IntKind.max, IntKind.signed, IntKind.bits] using w4
    obtain ⟨u, rfl⟩ : ∃ u : Nat, i4 = (u : Int) := ⟨i4.toNat, by rw [Int.toNat_of_nonneg]; omega⟩
    refine ⟨⟨i0, i1, i2, i3, u⟩, rfl, ?_, ?_, ?_, ?_, by simp only; omega⟩
    · simpa [Lit.wf, IntKind.min, IntKind.max, IntKind.signed, IntKind.bits, I64] using w0
    · simpa [Lit.wf, IntKind.min, IntKind.max, IntKind.signed, IntKind.bits, I64] using w1
    · simpa [Lit.wf, IntKind.min, IntKind.max, IntKind.signed, IntKind.bits, I64] using w2
    · simpa [Lit.wf, IntKind.min, IntKind.max, IntKind.signed, IntKind.bits, I64] using w3
theorem md_at {xs : List Md} {j : Nat} (h : j < xs.length) : ∃ h' p' s' g' u', xs[j]? = some ⟨h', p', s', g', u'⟩ := ⟨_, _, _, _, _, List.getElem?_eq_getElem h⟩

/-! ### Same, of two lists that are one -/
set_option maxRecDepth 20000 in
set_option maxHeartbeats 1000000 in
theorem same11_any (w : World) (x y : Value) (us : List Md) (hx : Els encM 5 w x us) (hy : Els encM 5 w y us) :
    Calls Try.prog 10 #[x, y] w fun e w' => e = .returned (.bool true) ∧ ∃ m, w' = w.drewN m := by
  obtain ⟨a, ca, rfl⟩ := hx.shape
  obtain ⟨b, cb, rfl⟩ := hy.shape
  have hl : us.length ≤ 9223372036854775807 := by have := hx.1; unfold maxLen at this; omega
  have HX : Hid (Els encM 5 w (.slice a us.length ca) us) := hx
  have HY : Hid (Els encM 5 w (.slice b us.length cb) us) := hy
  clear hx hy
  obtain ⟨n, hn⟩ : ∃ n, n = us.length := ⟨_, rfl⟩
  rw [← hn] at HX HY hl ⊢
  have HN : Hid (n = us.length) := hn
  clear hn
  go_enter Try.func10, Try.ntmps10
  go_wp2_with fail
  go_loopw [5] (fun i wr => ∃ k : Nat, i = .int .i64 (k : Nat) ∧ k ≤ n ∧ ∃ m, wr = w.drewN m) (fun i _ => n - (intOf i).toNat)
  case atStart => exact ⟨0, rfl, Nat.zero_le _, 0, rfl⟩
  case round =>
    obtain ⟨k, rfl, hk, m, rfl⟩ := hrel
    by_cases hlt : k < n
    · obtain ⟨p, off, rfl, hp, hc1⟩ := HX.out.md (by omega)
      obtain ⟨q, of2, rfl, hq, hc2⟩ := HY.out.md (by omega)
      obtain ⟨h1, p1, s1, g1, u1, hk1⟩ := md_at (xs := us) (j := k) (by rw [← HN.out]; exact hlt)
      obtain ⟨c0, c1, c2, c3, c4⟩ := hc1 k _ hk1
      obtain ⟨d0, d1, d2, d3, d4⟩ := hc2 k _ hk1
      clear hc1 hc2 hp hq hk1
      go_wp2_with fail
      go_quiet (fail)
      go_wp2
      go_roundw
      case rel => exact ⟨k + 1, by go_num, by omega, _, rfl⟩
      case measure => simp [intOf]; omega
    · go_wp2
      go_ret
      exact ⟨rfl, _, rfl⟩

/-! ### Find -/
/-- A key's entry. -/
def findM : List Md → Ky → Option (Int × Int × Nat)
  | [], _ => none
  | m :: r, k => if m.k = k then some (m.s, m.g, m.u) else findM r k
theorem findM_append (l r : List Md) (k : Ky) (h : findM l k = none) : findM (l ++ r) k = findM r k := by
  induction l with
  | nil => rfl
  | cons x t ih =>
    unfold findM at h
    split at h
    · cases h
    · rename_i hx
      rw [List.cons_append, findM, if_neg hx]
      exact ih h
theorem findM_snoc_no {l : List Md} {j : Nat} {m : Md} {k : Ky} (hj : l[j]? = some m) (h : findM (l.take j) k = none) (hne : m.k ≠ k) : findM (l.take (j + 1)) k = none := by
  rw [take_snocA hj, findM_append _ _ _ h, findM, if_neg hne]
  rfl
theorem findM_hit {l : List Md} {j : Nat} {m : Md} {k : Ky} (hj : l[j]? = some m) (h : findM (l.take j) k = none) (he : m.k = k) : findM l k = some (m.s, m.g, m.u) := by
  have hl := (List.getElem?_eq_some_iff.1 hj).1
  have e : l = l.take j ++ m :: l.drop (j + 1) := by
    have h2 := List.getElem?_eq_getElem hl
    rw [hj, Option.some.injEq] at h2
    rw [h2, ← List.drop_eq_getElem_cons hl, List.take_append_drop]
  rw [e, findM_append _ _ _ h, findM, if_pos he]
/-- What Find answers. -/
def entV (o : Option (Int × Int × Nat)) : Value := .agg #[.int .i64 (o.getD (0, 0, 0)).1, .int .i64 (o.getD (0, 0, 0)).2.1, .int .u32 ((o.getD (0, 0, 0)).2.2 : Nat)]
theorem Try.sizeE11 : (Try.prog.info? 39).map (·.size) = some 3 := by kernel_rfl
theorem load_ent {w : World} {b : Nat} {s g u : Int} (c0 : w.cell? ⟨b, 0, none⟩ = some (.int .i64 s)) (c1 : w.cell? ⟨b, 1, none⟩ = some (.int .i64 g)) (c2 : w.cell? ⟨b, 2, none⟩ = some (.int .u32 u)) : (loadVar 39 ⟨b, 0, none⟩).run Try.prog w = .ok (.agg #[.int .i64 s, .int .i64 g, .int .u32 u]) w :=
  run_loadVar_mid (P := Try.prog) _ b 0 39 [.int .i64 s, .int .i64 g, .int .u32 u] _ (fun j v hv => by
    rw [Nat.zero_add]
    match j, hv with
    | 0, hv => simp at hv; subst hv; exact c0
    | 1, hv => simp at hv; subst hv; exact c1
    | 2, hv => simp at hv; subst hv; exact c2
    | j + 3, hv => simp at hv) Try.underlying39 rfl Try.sizeE11
theorem set_three {w : World} {b : Nat} {u v t : Value} (x y z : Value) (h0 : w.cell? ⟨b, 0, none⟩ = some u) (h1 : w.cell? ⟨b, 1, none⟩ = some v) (h2 : w.cell? ⟨b, 2, none⟩ = some t) :
    (((w.setCell ⟨b, 0, none⟩ x).setCell ⟨b, 1, none⟩ y).setCell ⟨b, 2, none⟩ z).cell? ⟨b, 0, none⟩ = some x ∧ (((w.setCell ⟨b, 0, none⟩ x).setCell ⟨b, 1, none⟩ y).setCell ⟨b, 2, none⟩ z).cell? ⟨b, 1, none⟩ = some y ∧ (((w.setCell ⟨b, 0, none⟩ x).setCell ⟨b, 1, none⟩ y).setCell ⟨b, 2, none⟩ z).cell? ⟨b, 2, none⟩ = some z := by
  have n1 : (⟨b, 1, none⟩ : Addr) ≠ ⟨b, 0, none⟩ := by simp
  have n2 : (⟨b, 2, none⟩ : Addr) ≠ ⟨b, 0, none⟩ := by simp
  have n3 : (⟨b, 2, none⟩ : Addr) ≠ ⟨b, 1, none⟩ := by simp
  have m1 : (⟨b, 0, none⟩ : Addr) ≠ ⟨b, 1, none⟩ := by simp
  have m2 : (⟨b, 0, none⟩ : Addr) ≠ ⟨b, 2, none⟩ := by simp
  have m3 : (⟨b, 1, none⟩ : Addr) ≠ ⟨b, 2, none⟩ := by simp
  have k1 : (w.setCell ⟨b, 0, none⟩ x).cell? ⟨b, 1, none⟩ = some v := by rw [World.cell?_setCell_other (h := m1)]; exact h1
  have k2 : ((w.setCell ⟨b, 0, none⟩ x).setCell ⟨b, 1, none⟩ y).cell? ⟨b, 2, none⟩ = some t := by rw [World.cell?_setCell_other (h := m3), World.cell?_setCell_other (h := m2)]; exact h2
  refine ⟨?_, ?_, World.cell?_setCell_same _ _ z k2⟩
  · rw [World.cell?_setCell_other (h := n2), World.cell?_setCell_other (h := n1), World.cell?_setCell_same (h := h0)]
  · rw [World.cell?_setCell_other (h := n3)]
    exact World.cell?_setCell_same _ _ y k1
theorem new_frozen (V : World) (c : Array Value) (t : TypeId) (i : Nat) : (V.alloc (.cells c t)).frozen? ⟨V.heap.size, i, none⟩ = false := by simp
theorem new_three (V : World) (u v z : Value) (t : TypeId) : (V.alloc (.cells #[u, v, z] t)).cell? ⟨V.heap.size, 0, none⟩ = some u ∧ (V.alloc (.cells #[u, v, z] t)).cell? ⟨V.heap.size, 1, none⟩ = some v ∧ (V.alloc (.cells #[u, v, z] t)).cell? ⟨V.heap.size, 2, none⟩ = some z :=
  ⟨by simp, by simp, by simp⟩
set_option maxRecDepth 20000 in
set_option maxHeartbeats 2000000 in
theorem refFind11_any (w : World) (x : Value) (l : List Md) (h p : Int) (hx : Els encM 5 w x l) :
    Calls Try.prog 16 #[x, .agg #[.int .i64 h, .int .i64 p]] w fun e w' => e = .returned (.tuple #[entV (findM l (h, p)), .bool (findM l (h, p)).isSome]) ∧ Below w.heap.size w w' := by
  obtain ⟨a, ca, rfl⟩ := hx.shape
  have hl : l.length ≤ 9223372036854775807 := by have := hx.1; unfold maxLen at this; omega
  obtain ⟨n, hn⟩ : ∃ n, n = l.length := ⟨_, rfl⟩
  rw [← hn] at hx hl ⊢
  have HN : Hid (n = l.length) := hn
  have HX : Hid (Els encM 5 w (.slice a n ca) l) := hx
  clear hn hx
  go_enter Try.func16, Try.ntmps16
  go_wp2_with fail
  obtain ⟨W0, hW⟩ : ∃ W0, W0 = (w.alloc (.cells #[.int .i64 h, .int .i64 p] 36)).alloc (.cells #[.int .i64 0, .int .i64 0, .int .u32 0] 39) := ⟨_, rfl⟩
  have hs : (w.alloc (.cells #[.int .i64 h, .int .i64 p] 36)).heap.size = w.heap.size + 1 := by simp
  have HB0 : Hid (Below w.heap.size w W0) := by rw [hW]; exact ((Below.refl _ _).alloc (Nat.le_refl _) _).alloc (by simp) _
  have d0 : W0.cell? ⟨w.heap.size, 0, none⟩ = some (.int .i64 h) := by rw [hW]; simp
  have d1 : W0.cell? ⟨w.heap.size, 1, none⟩ = some (.int .i64 p) := by rw [hW]; simp
  have hn3 := new_three (w.alloc (.cells #[.int .i64 h, .int .i64 p] 36)) (.int .i64 0) (.int .i64 0) (.int .u32 0) 39
  rw [hs, ← hW] at hn3
  obtain ⟨e0, e1, e2⟩ := hn3
  have hfr := new_frozen (w.alloc (.cells #[.int .i64 h, .int .i64 p] 36)) #[.int .i64 0, .int .i64 0, .int .u32 0] 39
  rw [hs, ← hW] at hfr
  have g0 := hfr 0
  have g1 := hfr 1
  have g2 := hfr 2
  clear hfr
  have HX0 : Hid (Els encM 5 W0 (.slice a n ca) l) := HX.out.kept HB0.out
  rw [← hW]
  clear hW hs HX
  go_loopw [6] (fun i wr => ∃ k : Nat, i = .int .i64 (k : Nat) ∧ k ≤ n ∧ Hid (findM (l.take k) (h, p) = none) ∧ ∃ m, wr = W0.drewN m) (fun i _ => n - (intOf i).toNat)
  case atStart => exact ⟨0, rfl, Nat.zero_le _, rfl, 0, rfl⟩
  case round =>
    obtain ⟨k, rfl, hk, HT, m, rfl⟩ := hrel
    by_cases hlt : k < n
    · obtain ⟨b, off, rfl, hb, hc⟩ := HX0.out.md (by omega)
      obtain ⟨h', p', s', u', v', hkk⟩ := md_at (xs := l) (j := k) (by rw [← HN.out]; exact hlt)
      obtain ⟨c0, c1, c2, c3, c4⟩ := hc k _ hkk
      have HNO : Hid ((h', p') ≠ (h, p) → findM (l.take (k + 1)) (h, p) = none) := fun hne => findM_snoc_no hkk HT.out hne
      have HIT : Hid ((h', p') = (h, p) → findM l (h, p) = some (s', u', v')) := fun he => findM_hit hkk HT.out he
      clear hc hb hkk HT
      simp only at c0 c1 c2 c3 c4
      by_cases q1 : h' = h
      · by_cases q2 : p' = p
        · subst q1 q2
          have HE : Hid (findM l (h', p') = some (s', u', v')) := HIT.out rfl
          clear HIT HNO
          go_wp2_with fail
          go_quiet (fail)
          go_wp2
          refine bodyPost_ret (v := .tuple #[.agg #[.int .i64 _, .int .i64 _, .int .u32 _], .bool _]) (results_cell2 rfl rfl rfl (load_ent (set_three _ _ _ e0 e1 e2).1 (set_three _ _ _ e0 e1 e2).2.1 (set_three _ _ _ e0 e1 e2).2.2)) rfl ⟨by rw [HE.out]; rfl, ?_⟩
          exact (((HB0.out.trans ((below_dr W0 _).mono HB0.out.size)).setCell (Nat.le_succ _) _).setCell (Nat.le_succ _) _).setCell (Nat.le_succ _) _
        · have HT2 : Hid (findM (l.take (k + 1)) (h, p) = none) := HNO.out (fun e => q2 (by cases e; rfl))
          have hne : (p' == p) = false := by simpa using q2
          clear HIT HNO
          subst q1
          go_wp2_with fail
          go_quiet (fail)
          go_wp2
          go_roundw
          case rel => exact ⟨k + 1, by go_num, by omega, HT2, _, rfl⟩
          case measure => simp [intOf]; omega
      · have HT2 : Hid (findM (l.take (k + 1)) (h, p) = none) := HNO.out (fun e => q1 (by cases e; rfl))
        have hne : (h' == h) = false := by simpa using q1
        clear HIT HNO
        go_wp2_with fail
        go_quiet (fail)
        go_wp2
        go_roundw
        case rel => exact ⟨k + 1, by go_num, by omega, HT2, _, rfl⟩
        case measure => simp [intOf]; omega
    · have HE : Hid (findM l (h, p) = none) := by
        have h1 := HT.out
        rwa [List.take_of_length_le (by rw [← HN.out]; omega)] at h1
      go_wp2
      refine bodyPost_ret (v := .tuple #[.agg #[.int .i64 _, .int .i64 _, .int .u32 _], .bool _]) (results_cell2 rfl rfl rfl (load_ent (set_three _ _ _ e0 e1 e2).1 (set_three _ _ _ e0 e1 e2).2.1 (set_three _ _ _ e0 e1 e2).2.2)) rfl ⟨by rw [HE.out]; rfl, ?_⟩
      exact (((HB0.out.trans ((below_dr W0 _).mono HB0.out.size)).setCell (Nat.le_succ _) _).setCell (Nat.le_succ _) _).setCell (Nat.le_succ _) _
end Go.Proofs.Ytfclhehpbniapaa
