/- The contract of 'Write'. -/
import Derived.Test.YtjjodmppneonjaaWalkLoad
import Derived.Great.FillDense
import Derived.Great.BuildSlice
import Derived.Deep.AppendLies
namespace Go.Proofs.Ytjjodmppneonjaa
open Go.RowKit Go.Shelf
set_option linter.unusedVariables false
attribute [local go_sem] Oper.semAt_some

theorem find_congr {α : Type} {p q : α → Bool} : ∀ (l : List α), (∀ x ∈ l, p x = q x) → l.find? p = l.find? q
  | [], _ => rfl
  | x :: l, h => by
    rw [List.find?_cons, List.find?_cons, h x List.mem_cons_self, find_congr l (fun y hy => h y (List.mem_cons_of_mem _ hy))]
theorem lastOf_snoc (ps : List Wr) (p : Wr) (k : Nat) : lastOf (ps ++ [p]) k = if p.1 = k then some ps.length else lastOf ps k := by
  unfold lastOf
  rw [List.length_append, List.length_singleton, List.range_succ, List.reverse_append, List.reverse_singleton, List.singleton_append, List.find?_cons]
  have e : (ps ++ [p])[ps.length]? = some p := by simp
  rw [e]
  by_cases h : p.1 = k
  · simp [h]
  · rw [if_neg h]
    have h2 : ((Option.map (fun x => x.fst) (some p)) == some k) = false := by simp [h]
    rw [h2]
    simp only
    refine find_congr _ (fun i hi => ?_)
    have hi' : i < ps.length := by simpa using hi
    rw [List.getElem?_append_left hi']
theorem latest_snoc {D : DataW Unit} {ps : List Wr} (h : Latest D ps) (hD : Maps.IsMap D) (x : Nat) (s : Sec) (hx : x < 65536) : Latest (D.put (.int .i64 (x : Nat)) (.lit (.int .i64 (ps.length : Nat)))) (ps ++ [(x, s)]) := by
  intro k hk
  have hkey : WideAt.IsKeyLit (.int .i64 (x : Nat)) := (Maps.int_keyed Try.underlying3).key (Maps.keyOf_int_mk Try.underlying3 (wf_nat x (by omega)))
  rw [lastOf_snoc]
  by_cases e : x = k
  · subst e
    rw [if_pos rfl]
    refine ⟨fun h => (by cases h), fun i hi => ?_⟩
    cases hi
    exact ⟨Maps.has_put_same hD hkey _, Maps.atKey_put_same hD hkey _ _⟩
  · rw [if_neg e]
    have hne : (Lit.int .i64 (k : Nat)) ≠ (Lit.int .i64 (x : Nat)) := by
      intro he
      simp only [Lit.int.injEq, true_and] at he
      omega
    obtain ⟨h1, h2⟩ := h k hk
    refine ⟨fun hn => ?_, fun i hi => ?_⟩
    · rw [Maps.has_put_other hne]; exact h1 hn
    · rw [Maps.has_put_other hne, Maps.atKey_put_other hne]; exact h2 i hi

theorem Try.built64 (parts : List (Nat × Value)) : Try.prog.built 64 parts = Instr.fill (fun i => (#[(0, 1), (1, 128)] : Array (Nat × Nat))[i]?) (#[.int .i64 0] ++ Array.replicate 128 (.int .u8 0)) parts := by kernel_rfl
theorem fill_wr (x : Value) (cs : List Value) (hx : x.cells = #[x]) (hl : cs.length = 128) : Instr.fill (fun i => (#[(0, 1), (1, 128)] : Array (Nat × Nat))[i]?) (#[.int .i64 0] ++ Array.replicate 128 (.int .u8 0)) [(0, x), (1, .agg cs.toArray)] = some (x :: cs).toArray := by
  have hs : (.agg cs.toArray : Value).cells = cs.toArray := rfl
  simp only [Instr.fill, hx, hs]
  simp [hl]
  apply Array.ext_getElem?
  intro k
  obtain ⟨g1, g2⟩ := Great.foldl_set 1 cs 0 (#[x] ++ Array.replicate 128 (Value.int .u8 0))
  rw [g2 k]
  by_cases h0 : k = 0
  · subst h0
    rw [if_neg (by omega)]
    simp
  · by_cases h1 : k < 129
    · rw [if_pos (by simp [hl]; omega)]
      obtain ⟨j, rfl⟩ : ∃ j, k = j + 1 := ⟨k - 1, by omega⟩
      simp
    · rw [if_neg (by simp [hl]; omega), Array.getElem?_eq_none (by simp; omega), Array.getElem?_eq_none (by simp [hl]; omega)]
theorem run_build_wr (w : World) (x : Nat) (s : Sec) : (Instr.build 64 #[(0, .int .i64 (x : Nat)), (1, .agg s.cells.toArray)]).run Try.prog w = .ok (.agg (wrCells (x, s)).toArray) w :=
  run_build w 64 _ _ ((Try.built64 _).trans (fill_wr _ _ rfl (Sec.cells_length s)))
theorem Try.infoWr : (Try.prog.info? 64).map (fun i => (i.zero, i.size, i.bytes)) = some (some (.agg (#[.int .i64 0] ++ Array.replicate 128 (.int .u8 0))), 129, 136) := by kernel_rfl
theorem fill_one (z : Array Value) (hz : z.size = 129) (p : Wr) : Instr.fill (fun i => some (i * 129, 129)) z [(0, .agg (wrCells p).toArray)] = some (wrCells p).toArray := by
  have := Great.fill_whole (s := 129) (by decide) [.agg (wrCells p).toArray] z (fun v hv => by simp at hv; subst hv; show (wrCells p).toArray.size = 129; simp [wrCells_length]) (by simp [hz])
  simpa [Value.cells] using this

theorem range_size (z : Array Value) : ((Array.range (1 * 129)).map (z[· % z.size]!)).size = 129 := by simp
/-- 'm[k] = v', at the operation. -/
theorem wp_mapUpdate_own {P : Program} {w : World} {o : Oper} {a : Act} {K : Act → World → Prop} {Q : Exit → Act → World → Prop} (m x v : Operand) (t : TypeId) (hop : o.op = Op.mapUpdate t m x v)
    (k e : TypeId) (K0 : Maps.Keyed P k) (ht : P.underlying t = some (.map k e)) (R : Value → Option (DataW Unit × List MemPlace)) (b n : Nat) (D : DataW Unit)
    (hm : a.eval m = .map (some b)) (hown : w.ownsMap P k R b n D) (hn : n < maxLen) (key val : Value) (kl : Lit) (hx : a.eval x = key) (hv : a.eval v = val) (hkey : keyOf P k key = some kl)
    (d : DataW Unit) (ps : List MemPlace) (hval : R val = some (d, ps))
    (hK : ∀ w', w'.ownsMap P k R b (n + 1) (D.put kl d) → w.grownBy w' (some b) → K (a.put o.dst undef) w') : o.wp P a w K Q := by
  obtain ⟨w', hrun, r1, r2⟩ := hown.update K0 ht hn hkey hval
  unfold Oper.wp
  simp [execOp, hop, hm, hx, hv, hrun, Result.andThen]
  exact hK w' r1 r2

/-- A write more waits. -/
theorem IsDisk.wrote {K : Nat → Prop} {W W' : World} {L : Loc} {S : St} (h : IsDisk K W L S) (x : Nat) (s : Sec) (hx : x < S.n) (hm : S.waits.length + 1 ≤ 1000000000) (hw : S.written + 1 ≤ 1000000000) (g cap : Nat)
    (hmap : ∃ D : DataW Unit, W'.ownsMap Try.prog 3 (plainElem Try.prog 3) L.mb (S.waits.length + 1) D ∧ Latest D (S.waits ++ [(x, s)]))
    (hrow : W'.ownsRow 0 64 129 (.slice (some ⟨g, 0, none⟩) (S.waits.length + 1) cap) (S.waits.length + 1) (flatW S.waits ++ wrCells (x, s)))
    (hhead : Head W' L.b (.slice (some ⟨L.sb, 0, none⟩) S.n S.n) (.slice (some ⟨g, 0, none⟩) (S.waits.length + 1) cap) (.map (some L.mb)) (.int .i64 ((S.written + 1 : Nat) : Int)) (.int .i64 S.left))
    (hsb : W'.heap[L.sb]? = W.heap[L.sb]?) (hsize : W.heap.size ≤ W'.heap.size) (hg : L.wv.ownBlock = some g ∨ W.heap.size ≤ g) (hglt : g < W'.heap.size) :
    IsDisk K W' { L with wv := .slice (some ⟨g, 0, none⟩) (S.waits.length + 1) cap } { S with waits := S.waits ++ [(x, s)], written := S.written + 1 } where
  head := hhead
  safe i hi := rangeAt_same (h.safe i hi) hsb
  there := there_same h.there hsb
  waits := by
    have e : (S.waits ++ [(x, s)]).length = S.waits.length + 1 := by simp
    show W'.ownsRow 0 64 129 (.slice (some ⟨g, 0, none⟩) (S.waits.length + 1) cap) (S.waits ++ [(x, s)]).length (flatW (S.waits ++ [(x, s)]))
    rw [e, flatW_append]
    simpa [flatW] using hrow
  map := by
    obtain ⟨D, h1, h2⟩ := hmap
    exact ⟨D, by show W'.ownsMap _ _ _ L.mb (S.waits ++ [(x, s)]).length D; rw [List.length_append]; exact h1, h2⟩
  nK k hk := by
    rcases hk with hk | hk | hk | hk
    · exact h.nK k (.inl hk)
    · exact h.nK k (.inr (.inl hk))
    · exact h.nK k (.inr (.inr (.inl hk)))
    · obtain rfl : g = k := by simpa [Value.ownBlock] using hk
      rcases hg with hg | hg
      · exact h.nK g (.inr (.inr (.inr hg)))
      · intro hK
        have := h.kl g hK
        omega
  lt k hk := by
    rcases hk with hk | hk | hk | hk
    · exact Nat.lt_of_lt_of_le (h.lt k (.inl hk)) hsize
    · exact Nat.lt_of_lt_of_le (h.lt k (.inr (.inl hk))) hsize
    · exact Nat.lt_of_lt_of_le (h.lt k (.inr (.inr (.inl hk)))) hsize
    · obtain rfl : g = k := by simpa [Value.ownBlock] using hk
      exact hglt
  ne1 := h.ne1
  ne2 := h.ne2
  ne3 := h.ne3
  ne4 g' hg' := by
    obtain rfl : g = g' := by simpa [Value.ownBlock] using hg'
    rcases hg with hg | hg
    · exact h.ne4 g hg
    · have a1 := h.lt _ (.inl rfl)
      have a2 := h.lt _ (.inr (.inl rfl))
      have a3 := h.lt _ (.inr (.inr (.inl rfl)))
      exact ⟨by show g ≠ L.b; omega, by show g ≠ L.sb; omega, by show g ≠ L.mb; omega⟩
  kl k hk := Nat.lt_of_lt_of_le (h.kl k hk) hsize
  ok := ⟨h.ok.n1, h.ok.n2, by
    intro p hp
    rcases List.mem_append.1 hp with hp | hp
    · exact h.ok.at' p hp
    · rw [List.mem_singleton] at hp; subst hp; exact hx, by simpa using hm, hw, h.ok.l1, h.ok.l2⟩

/-- What a round of 'Write' leaves. -/
theorem wrote_end {K2 : Nat → Prop} {W W1 W3 : World} {L : Loc} {U : St} {aw : Option Addr} {q cw : Nat} (hD : IsDisk K2 W { L with wv := .slice aw q cw } U) (hq : U.waits.length = q) (x : Nat) (s : Sec) (hx : x < U.n) (hm : q + 1 ≤ 1000000000) (hw : U.written + 1 ≤ 1000000000)
    (D : DataW Unit) (hown1 : W1.ownsMap Try.prog 3 (plainElem Try.prog 3) L.mb (q + 1) D) (hlat : Latest D (U.waits ++ [(x, s)])) (hg1 : W.drew.grownBy W1 (some L.mb)) (g cap3 : Nat)
    (hown3 : W3.ownsRow 0 64 129 (.slice (some ⟨g, 0, none⟩) (q + 1) cap3) (q + 1) (flatW U.waits ++ wrCells (x, s)))
    (hg3 : (W1.drew.alloc (.cells (wrCells (x, s)).toArray 64)).grownBy W3 (Value.slice aw q cw).ownBlock)
    (hat3 : (Value.slice aw q cw).ownBlock = some g ∨ g = W1.heap.size + 1) (hlt3 : g < W3.heap.size) :
    Head W3 L.b (.slice (some ⟨L.sb, 0, none⟩) U.n U.n) (.slice aw q cw) (.map (some L.mb)) (.int .i64 (U.written : Nat)) (.int .i64 U.left) ∧
    Kept K2 W W3 ∧ (∀ k, k < W.heap.size → k ≠ L.b → k ≠ L.mb → (Value.slice aw q cw).ownBlock ≠ some k → W3.heap[k]? = W.heap[k]?) ∧
    IsDisk K2 ((W3.setCell ⟨L.b, 1, none⟩ (.slice (some ⟨g, 0, none⟩) (q + 1) cap3)).setCell ⟨L.b, 3, none⟩ (.int .i64 ((U.written : Int) + 1))) { L with wv := .slice (some ⟨g, 0, none⟩) (q + 1) cap3 } { U with waits := U.waits ++ [(x, s)], written := U.written + 1 } := by
  subst hq
  have hs1 : W.heap.size ≤ W1.heap.size := hg1.size
  have hs3 : W1.heap.size + 1 ≤ W3.heap.size := by have := hg3.size; simpa using this
  have hb1 : ∀ k, k < W.heap.size → k ≠ L.mb → W1.heap[k]? = W.heap[k]? := fun k hk e => hg1.block k hk (fun e' => e (Option.some.inj e'))
  have hb3 : ∀ k, k < W1.heap.size → (Value.slice aw U.waits.length cw).ownBlock ≠ some k → W3.heap[k]? = W1.heap[k]? := fun k hk e =>
    (hg3.block k (by simp; omega) (fun e' => e e'.symm)).trans (Below.heap_alloc W1.drew _ k hk)
  have hb : ∀ k, k < W.heap.size → k ≠ L.mb → (Value.slice aw U.waits.length cw).ownBlock ≠ some k → W3.heap[k]? = W.heap[k]? := fun k hk e1 e2 => (hb3 k (by omega) e2).trans (hb1 k hk e1)
  have nwv : ∀ k, k = L.b ∨ k = L.sb ∨ k = L.mb → (Value.slice aw U.waits.length cw).ownBlock ≠ some k := fun k hk e => by
    have := hD.ne4 k e
    rcases hk with rfl | rfl | rfl
    · exact this.1 rfl
    · exact this.2.1 rfl
    · exact this.2.2 rfl
  have lb : L.b < W.heap.size := hD.lt _ (.inl rfl)
  have lsb : L.sb < W.heap.size := hD.lt _ (.inr (.inl rfl))
  have lmb : L.mb < W.heap.size := hD.lt _ (.inr (.inr (.inl rfl)))
  have hH3 : Head W3 L.b (.slice (some ⟨L.sb, 0, none⟩) U.n U.n) (.slice aw U.waits.length cw) (.map (some L.mb)) (.int .i64 (U.written : Nat)) (.int .i64 U.left) := (hb L.b lb hD.ne2 (nwv _ (.inl rfl))).trans hD.head
  refine ⟨hH3, ?_, fun k hk _ e2 e3 => hb k hk e2 e3, ?_⟩
  · refine ⟨hg3.os.trans hg1.os, hg3.tape.trans hg1.tape, hg3.output.trans hg1.output, by omega, fun k hk => hb k (hD.kl k hk) (fun e => hD.nK k (.inr (.inr (.inl e))) hk) (fun e => hD.nK k (.inr (.inr (.inr e))) hk)⟩
  · have gb : g ≠ L.b := by
      rcases hat3 with h | h
      · exact (hD.ne4 g h).1
      · intro e; omega
    have gm : g ≠ L.mb := by
      rcases hat3 with h | h
      · exact (hD.ne4 g h).2.2
      · intro e; omega
    have hh : ∀ k, k ≠ L.b → ((W3.setCell ⟨L.b, 1, none⟩ (.slice (some ⟨g, 0, none⟩) (U.waits.length + 1) cap3)).setCell ⟨L.b, 3, none⟩ (.int .i64 ((U.written : Int) + 1))).heap[k]? = W3.heap[k]? := fun k hk =>
      (Below.heap_setCell _ _ _ k hk).trans (Below.heap_setCell _ _ _ k hk)
    have h5 := hD.wrote (W' := (W3.setCell ⟨L.b, 1, none⟩ (.slice (some ⟨g, 0, none⟩) (U.waits.length + 1) cap3)).setCell ⟨L.b, 3, none⟩ (.int .i64 ((U.written : Int) + 1))) x s hx hm hw g cap3
      ⟨D, ownsMap_same hown1 ((hh _ hD.ne2.symm).trans (hb3 L.mb (by omega) (nwv L.mb (.inr (.inr rfl))))), hlat⟩
      (ownsRow_same hown3 (fun g' hg' => hh _ (by
        obtain rfl : g = g' := by simpa [Value.ownBlock] using hg'
        exact gb)))
      (by have := (hH3.set1 (.slice (some ⟨g, 0, none⟩) (U.waits.length + 1) cap3)).set3 (.int .i64 ((U.written : Int) + 1)); exact this)
      ((hh _ hD.ne1.symm).trans (hb _ lsb hD.ne3 (nwv _ (.inr (.inl rfl))))) (by simp; omega) (by
        rcases hat3 with h | h
        · exact .inl h
        · right; omega) (by simpa using hlt3)
    exact h5

/-- 'build', in a region that draws its order: it may be taken first. -/
theorem yieldsIf_build {P : Program} {ops : Array Oper} {S : World → Prop} {op : Oper} {a : Act} (hw : Region.wanted op (yielded ops a.tmps) = true) (t : TypeId) (parts : Array (Nat × Operand)) (ho : op.op = .build t parts)
    (vals : Array (Nat × Value)) (hv : (parts.map fun (i, x) => (i, a.eval x)) = vals) (cells : Array Value) (hb : ∀ w, (Instr.build t vals).run P w = .ok (.agg cells) w) : YieldsIf P ops S op (.agg cells) a :=
  .inl ⟨hw, fun w _ => by
    unfold execOp
    simp only [ho, hv, Sem.run_bind, hb, Result.andThen_ok, Sem.run_pure]⟩

def wroteSt (S : St) (a : Nat) (ps : List Wr) : St := { S with waits := S.waits ++ ps.map (fun p => (a + p.1, p.2)), written := S.written + ps.length }
theorem wroteSt_snoc (S : St) (a : Nat) (ps : List Wr) (p : Wr) : wroteSt S a (ps ++ [p]) = { wroteSt S a ps with waits := (wroteSt S a ps).waits ++ [(a + p.1, p.2)], written := (wroteSt S a ps).written + 1 } := by
  simp [wroteSt, Nat.add_assoc]

set_option maxRecDepth 100000 in
set_option maxHeartbeats 2000000 in
theorem write_ok {K : Nat → Prop} {w : World} {L : Loc} {S : St} (h : IsDisk K w L S) (a m : Nat) (v : Value) (zs : List Nat) (hv : Octs w v zs) (hvK : ∀ x n c, v = .slice (some x) n c → K x.block) (hl : zs.length = 128 * m) (h1 : 1 ≤ m) (ham : a + m ≤ S.n) (hleft : S.left ≠ 0)
    (hm1 : S.waits.length + m ≤ 1000000000) (hm2 : S.written + m ≤ 1000000000) :
    Calls Try.prog 14 #[.pointer (some ⟨L.b, 0, none⟩), .int .i64 (a : Nat), v] w fun e w' => e = .returned (.int .i64 0) ∧ (∃ wv, IsDisk K w' { L with wv := wv } (wroteSt S.spent a (valW (xsTo zs m m)))) ∧ Kept K w w' := by
  obtain ⟨a9, cap, rfl⟩ := hv.shape
  rw [hl] at hv hvK ⊢
  obtain ⟨bb, off, rfl, hbb, hoct⟩ := hv.addr (by omega)
  have hKbb : K bb := hvK _ _ _ rfl
  have hcap : zs.length ≤ cap := by
    obtain ⟨_, _, a', cap', e, h3, _⟩ := hv
    simp only [Value.slice.injEq] at e
    omega
  have H : Hid (IsDisk K w L S) := h
  have HOC : Hid (OctAt w bb off zs) := hoct
  have HO : Hid (Octets zs) := hv.small
  have hn := h.ok.n2
  have hkl := h.kl bb hKbb
  clear hv hoct hvK h
  refine (callsIn_wide (n := 6)).1 (callsIn_of_wp_marks (F := Fence.wide) (n := 6) Try.func14 rfl trivial (wpIn_wide.2 ?_) rfl)
  simp only [Try.ntmps14, List.size_toArray, List.length_cons, List.length_nil, Nat.reduceAdd, Nat.reduceSub, Array.replicate_succ, Array.replicate_zero, List.push_toArray, List.append_toArray, List.nil_append, List.cons_append]
  have hD1 : IsDisk (fun k => K k ∨ k = w.heap.size ∨ k = w.heap.size + 1) ((w.alloc (.cells #[.pointer (some ⟨L.b, 0, none⟩)] 24)).alloc (.cells #[.int .i64 (a : Nat)] 3)) L S := by
    refine IsDisk.turnK (K := K) ((H.out.alloc _).alloc _) ?_ ?_
    · rintro k hf (hk | rfl | rfl)
      · exact H.out.nK k hf hk
      · have := H.out.lt _ hf; omega
      · have := H.out.lt _ hf; omega
    · rintro k (hk | rfl | rfl)
      · have := H.out.kl k hk; simp; omega
      · simp; omega
      · simp
  have HD1 : Hid (IsDisk (fun k => K k ∨ k = w.heap.size ∨ k = w.heap.size + 1) ((w.alloc (.cells #[.pointer (some ⟨L.b, 0, none⟩)] 24)).alloc (.cells #[.int .i64 (a : Nat)] 3)) L S) := hD1
  clear hD1
  go_wp2_with fail
  refine (has_v HD1.out _ _).mono ?_
  rintro e w1 ⟨rfl, rfl⟩
  rw [hasN_ok ham]
  go_wp2_with fail
  refine (spend_v HD1.out).mono ?_
  rintro e w2 ⟨rfl, hD2, hkp⟩
  rw [decide_eq_true hleft]
  have HD2 : Hid (IsDisk (fun k => K k ∨ k = w.heap.size ∨ k = w.heap.size + 1) w2 L S.spent) := hD2
  have hbd : Boxed w2 w.heap.size 24 (.pointer (some ⟨L.b, 0, none⟩)) := (hkp.block _ (.inr (.inl rfl))).trans ((Boxed.new w _ _).alloc _)
  have hba : Boxed w2 (w.heap.size + 1) 3 (.int .i64 (a : Nat)) := (hkp.block _ (.inr (.inr rfl))).trans (by
    have := Boxed.new (w.alloc (.cells #[.pointer (some ⟨L.b, 0, none⟩)] 24)) 3 (.int .i64 (a : Nat))
    rwa [World.size_alloc] at this)
  have hK2 : Kept K w w2 := by
    refine (((Kept.refl K w).alloc H.out.kl _).alloc ?_ _).trans (hkp.mono (fun k hk => .inl hk))
    intro k hk; have := H.out.kl k hk; simp; omega
  have HBX : Hid (Boxed w2 w.heap.size 24 (.pointer (some ⟨L.b, 0, none⟩)) ∧ Boxed w2 (w.heap.size + 1) 3 (.int .i64 (a : Nat))) := ⟨hbd, hba⟩
  have HK2 : Hid (Kept K w w2) := hK2
  have hsz2 : w.heap.size + 2 ≤ w2.heap.size := by have := hkp.size; simp at this; exact this
  have hc1 := hbd.cell
  clear hD2 hkp hbd hba hK2
  go_wp2_with fail
  refine (sectors_v _ _ (some ⟨bb, off, none⟩) (128 * m) cap rfl).mono ?_
  rintro e w3 ⟨rfl, rfl⟩
  go_wp2_with fail
  refine (wpIn_wide (n := 6)).1 ?_
  obtain ⟨W0, hW0⟩ : ∃ W0, w2.alloc (.cells #[.slice (some ⟨bb, off, none⟩) (128 * m) cap] 22) = W0 := ⟨_, rfl⟩
  have hsz : W0.heap.size = w2.heap.size + 1 := by rw [← hW0]; simp
  have hBs : Boxed W0 w2.heap.size 22 (.slice (some ⟨bb, off, none⟩) (128 * m) cap) := by rw [← hW0]; exact Boxed.new w2 _ _
  have hBd : Boxed W0 w.heap.size 24 (.pointer (some ⟨L.b, 0, none⟩)) := by rw [← hW0]; exact HBX.out.1.alloc _
  have hBa : Boxed W0 (w.heap.size + 1) 3 (.int .i64 (a : Nat)) := by rw [← hW0]; exact HBX.out.2.alloc _
  have hK0 : Kept K w W0 := by
    rw [← hW0]
    refine HK2.out.alloc (fun k hk => ?_) _
    have := H.out.kl k hk; omega
  have hD0 : IsDisk (fun k => (K k ∨ k = w.heap.size ∨ k = w.heap.size + 1) ∨ k = w2.heap.size) W0 L S.spent := by
    rw [← hW0]
    refine IsDisk.turnK (HD2.out.alloc _) ?_ ?_
    · rintro k hf (hk | rfl)
      · exact HD2.out.nK k hf hk
      · have := HD2.out.lt _ hf; omega
    · rintro k (hk | rfl)
      · have := HD2.out.kl k hk; simp; omega
      · simp
  rw [hW0]
  clear hW0
  have hmb : L.mb < W0.heap.size := hD0.lt _ (.inr (.inr (.inl rfl)))
  have hsb0 : L.sb < W0.heap.size := hD0.lt _ (.inr (.inl rfl))
  have hb0 : L.b < W0.heap.size := hD0.lt _ (.inl rfl)
  obtain ⟨T, hT⟩ : ∃ T, S.spent = T := ⟨_, rfl⟩
  have HT : Hid (S.spent = T) := hT
  have t1 : T.n = S.n := by rw [← hT]; rfl
  have t2 : T.waits = S.waits := by rw [← hT]; rfl
  have t3 : T.written = S.written := by rw [← hT]; rfl
  rw [hT] at hD0
  have HKL : Hid (∀ k, K k → k < w.heap.size) := H.out.kl
  clear hT
  refine wpIn_rangeFunc_ownH (F := Fence.wide) rfl (by decide) (gf := 27) (lb := #[.pointer (some ⟨w2.heap.size, 0, none⟩)]) rfl trivial (enters_of Try.func27 (by kernel_rfl) rfl)
    (sectors_stops 5 w2.heap.size bb off cap m zs (by decide) hl (by omega) hcap HO.out W0 hBs.cell hBs.lt (by omega) (fun j hj => (hK0.cell (p := ⟨bb, off + j, none⟩) hKbb).trans (HOC.out j hj)))
    Kept.trans (kpS_b hBs.lt (by omega)) (Below.refl _ _) (fun _ => rfl)
    (fun pre W => (∃ wv, IsDisk (fun k => (K k ∨ k = w.heap.size ∨ k = w.heap.size + 1) ∨ k = w2.heap.size) W { L with wv := wv } (wroteSt T a (valW pre))) ∧ Boxed W w.heap.size 24 (.pointer (some ⟨L.b, 0, none⟩)) ∧ Boxed W (w.heap.size + 1) 3 (.int .i64 (a : Nat)) ∧ Kept K w W ∧ W0.heap.size ≤ W.heap.size)
    (fun _ _ _ => False)
    (fun s A B row hs hg hr => ⟨by obtain ⟨wv, h⟩ := hs.1; exact ⟨wv, h.own hg hr hmb⟩, boxed_own w.heap.size 24 (fun (_ : Unit) => (.pointer (some ⟨L.b, 0, none⟩) : Value)) () A B row hs.2.1 hg (fun r e => (hr r e).2), boxed_own (w.heap.size + 1) 3 (fun (_ : Unit) => (.int .i64 (a : Nat) : Value)) () A B row hs.2.2.1 hg (fun r e => (hr r e).2), hs.2.2.2.1.grown hg (fun k hk => by have h5 := HKL.out k hk; exact ⟨by have := hs.2.2.2.2; omega, fun e => by have := (hr k e).1; omega⟩), Nat.le_trans hs.2.2.2.2 hg.size⟩)
    (fun _ _ _ _ _ hs _ _ => hs)
    ⟨⟨L.wv, by simpa [wroteSt, valW] using hD0⟩, hBd, hBa, hK0, Nat.le_refl _⟩
    (fun x a' W => ∃ Bx, W0.heap.size ≤ Bx ∧ W.heap[Bx]? = some (.cells x.1.2.cells.toArray 54 (0, 0)) ∧ a' = { tmps := #[.pointer (some ⟨L.b, 0, none⟩), .int .i64 (a : Nat), .slice (some ⟨bb, off, none⟩) (128 * m) cap, .pointer (some ⟨w.heap.size, 0, none⟩), .pointer (some ⟨w.heap.size + 1, 0, none⟩), undef, .int .i64 0, .int .i64 (x.1.1 : Nat), .pointer (some ⟨Bx, 0, none⟩), .slice (some ⟨bb, off, none⟩) (128 * m) cap, .int .i64 (128 * (m : Int)), .int .i64 0, .bool false, .bool false, .pointer (some ⟨L.b, 0, none⟩), .int .i64 (a : Nat), .slice (some ⟨bb, off, none⟩) (128 * m) cap, .int .i64 (128 * (m : Int)), .int .i64 (m : Nat), .bool true, .bool false, .bool false, .pointer (some ⟨L.b, 0, none⟩), .bool true, .bool false, .slice (some ⟨bb, off, none⟩) (128 * m) cap, .func (.func 27) #[] #[.pointer (some ⟨w2.heap.size, 0, none⟩)], .int .i64 (x.1.1 : Nat), .agg x.1.2.cells.toArray, undef, undef, undef, undef, undef, undef, undef, undef, undef, undef, undef, undef, undef, undef, undef, undef, undef, undef, undef, undef, undef, undef, undef, undef, undef, undef, undef, undef, undef, undef, undef, undef, undef], defers := [] })
    (fun x a' _ A B row hs hg hr => by
      obtain ⟨Bx, g1, g2, g3⟩ := hs
      refine ⟨Bx, g1, (hg.block Bx (Array.getElem?_eq_some_iff.1 g2).1 (fun e => ?_)).trans g2, g3⟩
      obtain ⟨_, o, ho, hc⟩ := hr Bx e.symm
      rw [g2] at ho; cases ho; cases hc)
    ?assign ?body ?done ?stop
  case assign =>
    rintro l pre x W K' ⟨⟨wv, hD⟩, hBd1, hBa1, hK1, hle⟩ hK
    have hz54 := Try.zeroSec
    have hs54 := Try.storeSec
    have hl54 := Sec.cells_length
    gi_wp2
    refine hK _ _ ((KeepsOthers.alloc _ _).from _) ((Kept.refl _ W).alloc (fun k hk => ?_) _) ⟨⟨wv, hD.alloc _⟩, hBd1.alloc _, hBa1.alloc _, hK1.alloc (fun k hk => by have := HKL.out k hk; omega) _, by simp; omega⟩ ⟨W.heap.size, hle, heap_alloc_last W _, rfl⟩
    rcases hk with rfl | rfl <;> omega
  case body =>
    rintro l pre ⟨⟨i, s⟩, hix⟩ a' W hl' ⟨r, hr⟩ ⟨⟨wv, hD⟩, hBd1, hBa1, hK1, hle⟩ ⟨Bx, hx1, hx2, rfl⟩ hlt
    simp only at hix hx2
    obtain ⟨i0, hi, hz0, hz1, hz2⟩ := info_parts Try.infoWr
    obtain ⟨aw, cw, rfl⟩ := wv_shape hD.waits
    have hvl : (valW pre).length = pre.length := by simp [valW]
    have hUe := wroteSt_snoc T a (valW pre) (i, s)
    obtain ⟨U, hU⟩ : ∃ U, wroteSt T a (valW pre) = U := ⟨_, rfl⟩
    have u1 : U.n = S.n := by rw [← hU]; exact t1
    have u2 : U.waits.length = S.waits.length + pre.length := by rw [← hU]; simp [wroteSt, t2, hvl]
    have u3 : U.written = S.written + pre.length := by rw [← hU]; simp [wroteSt, t3, hvl]
    rw [hU] at hD hUe
    clear hU
    obtain ⟨q, hq⟩ : ∃ q, U.waits.length = q := ⟨_, rfl⟩
    rw [hq] at hD
    obtain ⟨D, hmap, hlat⟩ := hD.map
    rw [hq] at hmap
    obtain ⟨c0, c1, c2, c3, c4⟩ := hD.head.cell
    simp only at c0 c1 c2 c3 c4
    have hmap' : W.drew.ownsMap Try.prog 3 (plainElem Try.prog 3) L.mb q D := hmap
    have HMAP : Hid (W.drew.ownsMap Try.prog 3 (plainElem Try.prog 3) L.mb q D) := hmap'
    have hisM := hmap.isMap
    have hkey : keyOf Try.prog 3 (.int .i64 ((a : Int) + (i : Int))) = some (.int .i64 ((a + i : Nat) : Int)) := by
      rw [← Int.natCast_add]; exact Maps.keyOf_int_mk Try.underlying3 (wf_nat (a + i) (by omega))
    have HL2 : Hid (Latest (D.put (.int .i64 ((a + i : Nat) : Int)) (.lit (.int .i64 (q : Nat)))) (U.waits ++ [(a + i, s)])) := by
      have := latest_snoc hlat hisM (a + i) s (by omega)
      rw [hq] at this
      exact this
    have hS0 : (fun w' : World => w'.cell? ⟨w.heap.size, 0, none⟩ = some (.pointer (some ⟨L.b, 0, none⟩)) ∧ w'.cell? ⟨L.b, 2, none⟩ = some (.map (some L.mb)) ∧ w'.cell? ⟨w.heap.size + 1, 0, none⟩ = some (.int .i64 (a : Nat)) ∧ w'.cell? ⟨L.b, 1, none⟩ = some (.slice aw q cw)) W.drew := ⟨hBd1.cell, c2, hBa1.cell, c1⟩
    have bne : L.b ≠ L.mb := hD.ne2
    have dne : w.heap.size ≠ L.mb := fun e => hD.nK _ (.inr (.inr (.inl rfl))) (.inl (.inr (.inl e.symm)))
    have ane : w.heap.size + 1 ≠ L.mb := fun e => hD.nK _ (.inr (.inr (.inl rfl))) (.inl (.inr (.inr e.symm)))
    have dne2 : w.heap.size ≠ L.b := fun e => hD.nK _ (.inl rfl) (.inl (.inr (.inl e.symm)))
    have ane2 : w.heap.size + 1 ≠ L.b := fun e => hD.nK _ (.inl rfl) (.inl (.inr (.inr e.symm)))
    have hBxw : (Value.slice aw q cw).ownBlock ≠ some Bx := by
      intro e
      rcases hD.waits.2 with ⟨e1, _⟩ | ⟨g, cap', cur, e1, _, hh, _⟩
      · simp only at e1
        rw [e1] at e; cases e
      · simp only at e1
        rw [e1] at e
        obtain rfl : g = Bx := by simpa [Value.ownBlock] using e
        rw [hx2] at hh
        simp at hh
    have hBxl : Bx < W.heap.size := (Array.getElem?_eq_some_iff.1 hx2).1
    have HX : Hid (W.heap[Bx]? = some (.cells s.cells.toArray 54 (0, 0))) := hx2
    have HD : Hid (IsDisk (fun k => (K k ∨ k = w.heap.size ∨ k = w.heap.size + 1) ∨ k = w2.heap.size) W { L with wv := .slice aw q cw } U) := hD
    have HBX2 : Hid (Boxed W w.heap.size 24 (.pointer (some ⟨L.b, 0, none⟩)) ∧ Boxed W (w.heap.size + 1) 3 (.int .i64 (a : Nat)) ∧ Kept K w W) := ⟨hBd1, hBa1, hK1⟩
    have HUE : Hid (wroteSt T a (valW pre ++ [(i, s)]) = { U with waits := U.waits ++ [(a + i, s)], written := U.written + 1 }) := hUe
    have e2 : IntKind.i64.wrap ((a : Int) + (i : Int)) = (a : Int) + (i : Int) := by rw [IntKind.wrap_i64]; omega
    have q1 : q + 1 ≤ 1000000000 := by omega
    have w1' : U.written + 1 ≤ 1000000000 := by omega
    have hxn : a + i < U.n := by omega
    have hq9 : q ≤ 1000000000 := by omega
    have hai : a + i < 65536 := by omega
    clear u1 u2 u3
    have hbl := hD.head.lt
    simp only at hbl
    clear hD hlat hmap hmap' hBd1 hBa1 hK1 hx2 hr hUe hisM
    gi_wp2
    refine wpIn_round_held (S := fun w' : World => w'.cell? ⟨w.heap.size, 0, none⟩ = some (.pointer (some ⟨L.b, 0, none⟩)) ∧ w'.cell? ⟨L.b, 2, none⟩ = some (.map (some L.mb)) ∧ w'.cell? ⟨w.heap.size + 1, 0, none⟩ = some (.int .i64 (a : Nat)) ∧ w'.cell? ⟨L.b, 1, none⟩ = some (.slice aw q cw)) (by kernel_rfl) (by kernel_rfl) (fun ⟨_, _, h⟩ => h) hS0 (fun hHeld => ?_)
    refine wpAnyH_take (i := 0) (v := .pointer (some ⟨L.b, 0, none⟩)) rfl (by kernel_rfl) (by kernel_rfl) (by kernel_rfl) (fun _ _ _ h => h) (Or.inl ⟨by rfl, fun w' hSw => ?_⟩) hHeld ?_
    · dsimp only at hSw
      go_simp
    simp only [Act.put, List.getElem_toArray, List.getElem_cons_zero, List.setIfInBounds_toArray, List.set_cons_zero, List.set_cons_succ]
    refine wpAnyH_take (i := 1) (v := .pointer (some ⟨L.b, 0, none⟩)) rfl (by kernel_rfl) (by kernel_rfl) (by kernel_rfl) (fun _ _ _ h => h) (Or.inl ⟨by rfl, fun w' hSw => ?_⟩) hHeld ?_
    · dsimp only at hSw
      go_simp
    simp only [Act.put, List.getElem_toArray, List.getElem_cons_succ, List.getElem_cons_zero, List.setIfInBounds_toArray, List.set_cons_zero, List.set_cons_succ]
    refine wpAnyH_take (i := 2) (v := .pointer (some ⟨L.b, 2, none⟩)) rfl (by kernel_rfl) (by kernel_rfl) (by kernel_rfl) (fun _ _ _ h => h) (Or.inl ⟨by rfl, fun w' hSw => ?_⟩) hHeld ?_
    · dsimp only at hSw
      go_simp
    simp only [Act.put, List.getElem_toArray, List.getElem_cons_succ, List.getElem_cons_zero, List.setIfInBounds_toArray, List.set_cons_zero, List.set_cons_succ]
    refine wpAnyH_take (i := 3) (v := .map (some L.mb)) rfl (by kernel_rfl) (by kernel_rfl) (by kernel_rfl) (fun _ _ _ h => h) (Or.inl ⟨by rfl, fun w' hSw => ?_⟩) hHeld ?_
    · dsimp only at hSw
      go_simp
    simp only [Act.put, List.getElem_toArray, List.getElem_cons_succ, List.getElem_cons_zero, List.setIfInBounds_toArray, List.set_cons_zero, List.set_cons_succ]
    refine wpAnyH_take (i := 4) (v := .int .i64 (a : Nat)) rfl (by kernel_rfl) (by kernel_rfl) (by kernel_rfl) (fun _ _ _ h => h) (Or.inl ⟨by rfl, fun w' hSw => ?_⟩) hHeld ?_
    · dsimp only at hSw
      go_simp
    simp only [Act.put, List.getElem_toArray, List.getElem_cons_succ, List.getElem_cons_zero, List.setIfInBounds_toArray, List.set_cons_zero, List.set_cons_succ]
    refine wpAnyH_take (i := 5) (v := .int .i64 (i : Nat)) rfl (by kernel_rfl) (by kernel_rfl) (by kernel_rfl) (fun _ _ _ h => h) (Or.inl ⟨by rfl, fun w' hSw => ?_⟩) hHeld ?_
    · dsimp only at hSw
      go_simp
    simp only [Act.put, List.getElem_toArray, List.getElem_cons_succ, List.getElem_cons_zero, List.setIfInBounds_toArray, List.set_cons_zero, List.set_cons_succ]
    refine wpAnyH_take (i := 6) (v := .int .i64 ((a : Int) + (i : Int))) rfl (by kernel_rfl) (by kernel_rfl) (by kernel_rfl) (fun _ _ _ h => h) (Or.inl ⟨by rfl, fun w' hSw => ?_⟩) hHeld ?_
    · dsimp only at hSw
      go_simp
    simp only [Act.put, List.getElem_toArray, List.getElem_cons_succ, List.getElem_cons_zero, List.setIfInBounds_toArray, List.set_cons_zero, List.set_cons_succ]
    refine wpAnyH_take (i := 7) (v := .pointer (some ⟨L.b, 0, none⟩)) rfl (by kernel_rfl) (by kernel_rfl) (by kernel_rfl) (fun _ _ _ h => h) (Or.inl ⟨by rfl, fun w' hSw => ?_⟩) hHeld ?_
    · dsimp only at hSw
      go_simp
    simp only [Act.put, List.getElem_toArray, List.getElem_cons_succ, List.getElem_cons_zero, List.setIfInBounds_toArray, List.set_cons_zero, List.set_cons_succ]
    refine wpAnyH_take (i := 8) (v := .pointer (some ⟨L.b, 0, none⟩)) rfl (by kernel_rfl) (by kernel_rfl) (by kernel_rfl) (fun _ _ _ h => h) (Or.inl ⟨by rfl, fun w' hSw => ?_⟩) hHeld ?_
    · dsimp only at hSw
      go_simp
    simp only [Act.put, List.getElem_toArray, List.getElem_cons_succ, List.getElem_cons_zero, List.setIfInBounds_toArray, List.set_cons_zero, List.set_cons_succ]
    refine wpAnyH_take (i := 9) (v := .pointer (some ⟨L.b, 1, none⟩)) rfl (by kernel_rfl) (by kernel_rfl) (by kernel_rfl) (fun _ _ _ h => h) (Or.inl ⟨by rfl, fun w' hSw => ?_⟩) hHeld ?_
    · dsimp only at hSw
      go_simp
    simp only [Act.put, List.getElem_toArray, List.getElem_cons_succ, List.getElem_cons_zero, List.setIfInBounds_toArray, List.set_cons_zero, List.set_cons_succ]
    refine wpAnyH_take (i := 10) (v := .slice aw q cw) rfl (by kernel_rfl) (by kernel_rfl) (by kernel_rfl) (fun _ _ _ h => h) (Or.inl ⟨by rfl, fun w' hSw => ?_⟩) hHeld ?_
    · dsimp only at hSw
      go_simp
    simp only [Act.put, List.getElem_toArray, List.getElem_cons_succ, List.getElem_cons_zero, List.setIfInBounds_toArray, List.set_cons_zero, List.set_cons_succ]
    refine wpAnyH_take (i := 11) (v := .int .i64 (q : Nat)) rfl (by kernel_rfl) (by kernel_rfl) (by kernel_rfl) (fun _ _ _ h => h) (Or.inl ⟨by rfl, fun w' hSw => ?_⟩) hHeld ?_
    · dsimp only at hSw
      go_simp
    simp only [Act.put, List.getElem_toArray, List.getElem_cons_succ, List.getElem_cons_zero, List.setIfInBounds_toArray, List.set_cons_zero, List.set_cons_succ]
    refine wpAnyH_ready (rs := [12]) (by kernel_rfl) (by simp) ?_
    refine AllReadyH.cons rfl (fun KK hK => ?_) AllReadyH.nil
    simp only [List.getElem_toArray, List.getElem_cons_succ, List.getElem_cons_zero]
    rw [if_pos (by rfl)]
    refine wp_mapUpdate_own (.tmp 32) (.tmp 35) (.tmp 40) 57 (by rfl) 3 3 (Maps.int_keyed Try.underlying3) Try.underlying57 (plainElem Try.prog 3) L.mb q D (by rfl) HMAP.out (by unfold maxLen; omega) _ _ (.int .i64 ((a + i : Nat) : Int)) (by rfl) (by rfl) hkey (.lit (.int .i64 (q : Nat))) [] (plainElem_int Try.underlying3 (wf_nat q (by omega))) ?_
    intro W1 hown1 hg1
    have hs1 : W.heap.size ≤ W1.heap.size := hg1.size
    have hb1 : ∀ k, k < W.heap.size → k ≠ L.mb → W1.heap[k]? = W.heap[k]? := fun k hk e => hg1.block k hk (fun e' => e (Option.some.inj e'))
    have hlw : w.heap.size + 1 < W.heap.size := by omega
    have hS1 : (fun w' : World => w'.cell? ⟨w.heap.size, 0, none⟩ = some (.pointer (some ⟨L.b, 0, none⟩)) ∧ w'.cell? ⟨L.b, 2, none⟩ = some (.map (some L.mb)) ∧ w'.cell? ⟨w.heap.size + 1, 0, none⟩ = some (.int .i64 (a : Nat)) ∧ w'.cell? ⟨L.b, 1, none⟩ = some (.slice aw q cw)) W1 := ⟨(World.cell?_of_block (w := W) (a := ⟨w.heap.size, 0, none⟩) (hb1 w.heap.size (by omega) dne)).trans hS0.1, (World.cell?_of_block (w := W) (a := ⟨L.b, 2, none⟩) (hb1 L.b hbl bne)).trans hS0.2.1, (World.cell?_of_block (w := W) (a := ⟨w.heap.size + 1, 0, none⟩) (hb1 (w.heap.size + 1) hlw ane)).trans hS0.2.2.1, (World.cell?_of_block (w := W) (a := ⟨L.b, 1, none⟩) (hb1 L.b hbl bne)).trans hS0.2.2.2⟩
    have hx11 : W1.heap[Bx]? = some (.cells s.cells.toArray 54 (0, 0)) := (hb1 Bx hBxl (by omega)).trans HX.out
    have HW1 : Hid (W1.ownsMap Try.prog 3 (plainElem Try.prog 3) L.mb (q + 1) (D.put (.int .i64 ((a + i : Nat) : Int)) (.lit (.int .i64 (q : Nat)))) ∧ W.drew.grownBy W1 (some L.mb)) := ⟨hown1, hg1⟩
    have c11 := hS1.2.2.2
    have hS91 : (fun w' : World => w'.cell? ⟨w.heap.size, 0, none⟩ = some (.pointer (some ⟨L.b, 0, none⟩)) ∧ w'.cell? ⟨w.heap.size + 1, 0, none⟩ = some (.int .i64 (a : Nat)) ∧ w'.rangeAt Bx 0 s.cells) W1.drew := by
      refine ⟨hS1.1, hS1.2.2.1, fun j v hv => ?_⟩
      show W1.cell? ⟨Bx, 0 + j, none⟩ = some v
      rw [cell_of_row _ _ _ _ _ _ hx11, Nat.zero_add]; simpa using hv
    have hS92 : (fun w' : World => w'.cell? ⟨w.heap.size, 0, none⟩ = some (.pointer (some ⟨L.b, 0, none⟩)) ∧ w'.cell? ⟨w.heap.size + 1, 0, none⟩ = some (.int .i64 (a : Nat)) ∧ w'.rangeAt Bx 0 s.cells) (W1.drew.alloc (.cells (wrCells (a + i, s)).toArray 64)) := by
      refine ⟨?_, ?_, World.rangeAt_alloc hS91.2.2 _⟩
      · rw [World.cell?_alloc_lt _ _ _ (by show w.heap.size < W1.heap.size; omega)]; exact hS91.1
      · rw [World.cell?_alloc_lt _ _ _ (by show w.heap.size + 1 < W1.heap.size; omega)]; exact hS91.2.1
    have c12 : (W1.drew.alloc (.cells (wrCells (a + i, s)).toArray 64)).cell? ⟨L.b, 1, none⟩ = some (.slice aw q cw) := by
      rw [World.cell?_alloc_lt _ _ _ (by show L.b < W1.heap.size; omega)]; exact c11
    have hbl1 : L.b < W1.heap.size := by omega
    have c14 : (W1.alloc (.cells (wrCells (a + i, s)).toArray 64)).cell? ⟨L.b, 1, none⟩ = some (.slice aw q cw) := c12
    have HS91 : Hid ((fun w' : World => w'.cell? ⟨w.heap.size, 0, none⟩ = some (.pointer (some ⟨L.b, 0, none⟩)) ∧ w'.cell? ⟨w.heap.size + 1, 0, none⟩ = some (.int .i64 (a : Nat)) ∧ w'.rangeAt Bx 0 s.cells) W1.drew) := hS91
    have HS92 : Hid ((fun w' : World => w'.cell? ⟨w.heap.size, 0, none⟩ = some (.pointer (some ⟨L.b, 0, none⟩)) ∧ w'.cell? ⟨w.heap.size + 1, 0, none⟩ = some (.int .i64 (a : Nat)) ∧ w'.rangeAt Bx 0 s.cells) (W1.drew.alloc (.cells (wrCells (a + i, s)).toArray 64))) := hS92
    have HNEWS : Hid (∀ j u, (wrCells (a + i, s))[j]? = some u → (W1.drew.alloc (.cells (wrCells (a + i, s)).toArray 64)).cell? ((⟨W1.heap.size, 0, none⟩ : Addr).add j) = some u) := by
      intro j u hu
      rw [Addr.add_mid]
      exact wr_new W1.drew (a + i, s) 64 j u hu
    have HOW2 : Hid ((W1.drew.alloc (.cells (wrCells (a + i, s)).toArray 64)).ownsRow 0 64 129 (.slice aw q cw) q (flatW U.waits)) := by
      have h6 := HD.out.waits
      rw [hq] at h6
      refine ownsRow_same h6 (fun g hg => ?_)
      have hgl := HD.out.lt g (.inr (.inr (.inr hg)))
      exact (Below.heap_alloc W1.drew _ g (by show g < W1.heap.size; omega)).trans (hb1 g hgl (HD.out.ne4 g hg).2.2)
    have HFIN : Hid (∀ g cap3 W3, W3.ownsRow 0 64 129 (.slice (some ⟨g, 0, none⟩) (q + 1) cap3) (q + 1) (flatW U.waits ++ wrCells (a + i, s)) → (W1.drew.alloc (.cells (wrCells (a + i, s)).toArray 64)).grownBy W3 (Value.slice aw q cw).ownBlock → ((Value.slice aw q cw).ownBlock = some g ∨ g = W1.heap.size + 1) → g < W3.heap.size →
        (fun w' : World => w'.cell? ⟨w.heap.size, 0, none⟩ = some (.pointer (some ⟨L.b, 0, none⟩)) ∧ w'.cell? ⟨w.heap.size + 1, 0, none⟩ = some (.int .i64 (a : Nat)) ∧ w'.rangeAt Bx 0 s.cells) W3 ∧ W3.cell? ⟨L.b, 1, none⟩ = some (.slice aw q cw) ∧ W3.frozen? ⟨L.b, 1, none⟩ = false ∧
        ((fun w' : World => w'.cell? ⟨w.heap.size, 0, none⟩ = some (.pointer (some ⟨L.b, 0, none⟩)) ∧ w'.cell? ⟨w.heap.size + 1, 0, none⟩ = some (.int .i64 (a : Nat)) ∧ w'.rangeAt Bx 0 s.cells) (W3.setCell ⟨L.b, 1, none⟩ (.slice (some ⟨g, 0, none⟩) (q + 1) cap3)) ∧ (W3.setCell ⟨L.b, 1, none⟩ (.slice (some ⟨g, 0, none⟩) (q + 1) cap3)).cell? ⟨L.b, 3, none⟩ = some (.int .i64 (U.written : Nat)) ∧ (W3.setCell ⟨L.b, 1, none⟩ (.slice (some ⟨g, 0, none⟩) (q + 1) cap3)).frozen? ⟨L.b, 3, none⟩ = false ∧ (W3.setCell ⟨L.b, 1, none⟩ (.slice (some ⟨g, 0, none⟩) (q + 1) cap3)).cell? ⟨w.heap.size, 0, none⟩ = some (.pointer (some ⟨L.b, 0, none⟩)) ∧
          (KeepsFrom W0.heap.size W ((W3.setCell ⟨L.b, 1, none⟩ (.slice (some ⟨g, 0, none⟩) (q + 1) cap3)).setCell ⟨L.b, 3, none⟩ (.int .i64 ((U.written : Int) + 1))) ∧ KpS w2.heap.size bb W ((W3.setCell ⟨L.b, 1, none⟩ (.slice (some ⟨g, 0, none⟩) (q + 1) cap3)).setCell ⟨L.b, 3, none⟩ (.int .i64 ((U.written : Int) + 1))) ∧
            (∃ wv, IsDisk (fun k => (K k ∨ k = w.heap.size ∨ k = w.heap.size + 1) ∨ k = w2.heap.size) ((W3.setCell ⟨L.b, 1, none⟩ (.slice (some ⟨g, 0, none⟩) (q + 1) cap3)).setCell ⟨L.b, 3, none⟩ (.int .i64 ((U.written : Int) + 1))) { L with wv := wv } (wroteSt T a (valW (pre ++ [⟨(i, s), hix⟩])))) ∧
            Boxed ((W3.setCell ⟨L.b, 1, none⟩ (.slice (some ⟨g, 0, none⟩) (q + 1) cap3)).setCell ⟨L.b, 3, none⟩ (.int .i64 ((U.written : Int) + 1))) w.heap.size 24 (.pointer (some ⟨L.b, 0, none⟩)) ∧ Boxed ((W3.setCell ⟨L.b, 1, none⟩ (.slice (some ⟨g, 0, none⟩) (q + 1) cap3)).setCell ⟨L.b, 3, none⟩ (.int .i64 ((U.written : Int) + 1))) (w.heap.size + 1) 3 (.int .i64 (a : Nat)) ∧ Kept K w ((W3.setCell ⟨L.b, 1, none⟩ (.slice (some ⟨g, 0, none⟩) (q + 1) cap3)).setCell ⟨L.b, 3, none⟩ (.int .i64 ((U.written : Int) + 1))) ∧ W0.heap.size ≤ ((W3.setCell ⟨L.b, 1, none⟩ (.slice (some ⟨g, 0, none⟩) (q + 1) cap3)).setCell ⟨L.b, 3, none⟩ (.int .i64 ((U.written : Int) + 1))).heap.size))) := by
      intro g cap3 W3 hown3 hg3 hat3 hlt3
      obtain ⟨f1, f2, f3, f4⟩ := wrote_end HD.out hq (a + i) s hxn q1 w1' _ HW1.out.1 HL2.out HW1.out.2 g cap3 hown3 hg3 hat3 hlt3
      have hbd3 : Boxed W3 w.heap.size 24 (.pointer (some ⟨L.b, 0, none⟩)) := (f2.block _ (.inl (.inr (.inl rfl)))).trans HBX2.out.1
      have hba3 : Boxed W3 (w.heap.size + 1) 3 (.int .i64 (a : Nat)) := (f2.block _ (.inl (.inr (.inr rfl)))).trans HBX2.out.2.1
      have hbx3 : W3.heap[Bx]? = some (.cells s.cells.toArray 54 (0, 0)) := (f3 Bx hBxl (by omega) (by omega) hBxw).trans HX.out
      have n1 := Head.set1 f1 (.slice (some ⟨g, 0, none⟩) (q + 1) cap3)
      have oth : ∀ k, k ≠ L.b → ((W3.setCell ⟨L.b, 1, none⟩ (.slice (some ⟨g, 0, none⟩) (q + 1) cap3)).setCell ⟨L.b, 3, none⟩ (.int .i64 ((U.written : Int) + 1))).heap[k]? = W3.heap[k]? := fun k hk => (Below.heap_setCell _ _ _ k hk).trans (Below.heap_setCell _ _ _ k hk)
      have hnK := HD.out.nK L.b (.inl rfl)
      have k5 : Kept (fun k => (K k ∨ k = w.heap.size ∨ k = w.heap.size + 1) ∨ k = w2.heap.size) W ((W3.setCell ⟨L.b, 1, none⟩ (.slice (some ⟨g, 0, none⟩) (q + 1) cap3)).setCell ⟨L.b, 3, none⟩ (.int .i64 ((U.written : Int) + 1))) := (f2.setCell (p := ⟨L.b, 1, none⟩) hnK _).setCell (p := ⟨L.b, 3, none⟩) hnK _
      have rg : ∀ j v, s.cells[j]? = some v → W3.cell? ⟨Bx, 0 + j, none⟩ = some v := fun j v hv => by
        rw [cell_of_row _ _ _ _ _ _ hbx3, Nat.zero_add]; simpa using hv
      refine ⟨⟨hbd3.cell, hba3.cell, rg⟩, f1.cell.2.1, f1.frozen 1, ⟨⟨?_, ?_, fun j v hv => ?_⟩, n1.cell.2.2.2.1, n1.frozen 3, ?_, ⟨?_, k5.mono (fun k hk => ?_), ⟨.slice (some ⟨g, 0, none⟩) (q + 1) cap3, ?_⟩, ?_, ?_, HBX2.out.2.2.trans (k5.mono (fun k hk => .inl (.inl hk))), Nat.le_trans hle k5.size⟩⟩⟩
      · exact (World.cell?_of_block (w := W3) (a := ⟨w.heap.size, 0, none⟩) (Below.heap_setCell W3 ⟨L.b, 1, none⟩ _ w.heap.size dne2)).trans hbd3.cell
      · exact (World.cell?_of_block (w := W3) (a := ⟨w.heap.size + 1, 0, none⟩) (Below.heap_setCell W3 ⟨L.b, 1, none⟩ _ (w.heap.size + 1) ane2)).trans hba3.cell
      · exact (World.cell?_of_block (w := W3) (a := ⟨Bx, 0 + j, none⟩) (Below.heap_setCell W3 ⟨L.b, 1, none⟩ _ Bx (by show Bx ≠ L.b; omega))).trans (rg j v hv)
      · exact (World.cell?_of_block (w := W3) (a := ⟨w.heap.size, 0, none⟩) (Below.heap_setCell W3 ⟨L.b, 1, none⟩ _ w.heap.size dne2)).trans hbd3.cell
      · refine ⟨k5.size, fun k o hk ho hc => ?_⟩
        have hkl := (Array.getElem?_eq_some_iff.1 ho).1
        refine (oth k (by omega)).trans ((f3 k hkl (by omega) (by omega) (fun e => ?_)).trans ho)
        rcases HD.out.waits.2 with ⟨e1, _⟩ | ⟨g', cap', cur, e1, _, hh, _⟩
        · simp only at e1
          rw [e1] at e; cases e
        · simp only at e1
          rw [e1] at e
          obtain rfl : g' = k := by simpa [Value.ownBlock] using e
          rw [hh] at ho; cases ho; cases hc
      · rcases hk with rfl | rfl
        · exact .inr rfl
        · exact .inl (.inl hKbb)
      · rw [valW_snoc, HUE.out]; exact f4
      · exact (oth _ dne2).trans hbd3
      · exact (oth _ ane2).trans hba3
    clear hown1 hg1 hb1 hx11 hS91 hS92 hS0
    simp only [Act.put]
    refine hK.out _ _ hS1 (fun _ => ?_)
    refine wpAnyH_done (by kernel_rfl) ?_ _
    clear hHeld hK hS1
    gi_wp2
    refine wpIn_round_held (S := fun w' : World => w'.cell? ⟨w.heap.size, 0, none⟩ = some (.pointer (some ⟨L.b, 0, none⟩)) ∧ w'.cell? ⟨w.heap.size + 1, 0, none⟩ = some (.int .i64 (a : Nat)) ∧ w'.rangeAt Bx 0 s.cells) (by kernel_rfl) (by kernel_rfl) (fun ⟨_, _, h⟩ => h) HS91.out (fun hHeld => ?_)
    refine wpAnyH_take (i := 0) (v := .pointer (some ⟨L.b, 0, none⟩)) rfl (by kernel_rfl) (by kernel_rfl) (by kernel_rfl) (fun _ _ _ h => h) (Or.inl ⟨by rfl, fun w' hSw => ?_⟩) hHeld ?_
    · dsimp only at hSw
      go_simp
    simp only [Act.put, List.getElem_toArray, List.getElem_cons_zero, List.setIfInBounds_toArray, List.set_cons_zero, List.set_cons_succ]
    refine wpAnyH_take (i := 1) (v := .pointer (some ⟨L.b, 0, none⟩)) rfl (by kernel_rfl) (by kernel_rfl) (by kernel_rfl) (fun _ _ _ h => h) (Or.inl ⟨by rfl, fun w' hSw => ?_⟩) hHeld ?_
    · dsimp only at hSw
      go_simp
    simp only [Act.put, List.getElem_toArray, List.getElem_cons_succ, List.getElem_cons_zero, List.setIfInBounds_toArray, List.set_cons_zero, List.set_cons_succ]
    refine wpAnyH_take (i := 2) (v := .pointer (some ⟨L.b, 0, none⟩)) rfl (by kernel_rfl) (by kernel_rfl) (by kernel_rfl) (fun _ _ _ h => h) (Or.inl ⟨by rfl, fun w' hSw => ?_⟩) hHeld ?_
    · dsimp only at hSw
      go_simp
    simp only [Act.put, List.getElem_toArray, List.getElem_cons_succ, List.getElem_cons_zero, List.setIfInBounds_toArray, List.set_cons_zero, List.set_cons_succ]
    refine wpAnyH_take (i := 3) (v := .pointer (some ⟨L.b, 1, none⟩)) rfl (by kernel_rfl) (by kernel_rfl) (by kernel_rfl) (fun _ _ _ h => h) (Or.inl ⟨by rfl, fun w' hSw => ?_⟩) hHeld ?_
    · dsimp only at hSw
      go_simp
    simp only [Act.put, List.getElem_toArray, List.getElem_cons_succ, List.getElem_cons_zero, List.setIfInBounds_toArray, List.set_cons_zero, List.set_cons_succ]
    refine wpAnyH_take (i := 5) (v := .int .i64 (a : Nat)) rfl (by kernel_rfl) (by kernel_rfl) (by kernel_rfl) (fun _ _ _ h => h) (Or.inl ⟨by rfl, fun w' hSw => ?_⟩) hHeld ?_
    · dsimp only at hSw
      go_simp
    simp only [Act.put, List.getElem_toArray, List.getElem_cons_succ, List.getElem_cons_zero, List.setIfInBounds_toArray, List.set_cons_zero, List.set_cons_succ]
    refine wpAnyH_take (i := 6) (v := .int .i64 (i : Nat)) rfl (by kernel_rfl) (by kernel_rfl) (by kernel_rfl) (fun _ _ _ h => h) (Or.inl ⟨by rfl, fun w' hSw => ?_⟩) hHeld ?_
    · dsimp only at hSw
      go_simp
    simp only [Act.put, List.getElem_toArray, List.getElem_cons_succ, List.getElem_cons_zero, List.setIfInBounds_toArray, List.set_cons_zero, List.set_cons_succ]
    refine wpAnyH_take (i := 7) (v := .int .i64 ((a : Int) + (i : Int))) rfl (by kernel_rfl) (by kernel_rfl) (by kernel_rfl) (fun _ _ _ h => h) (Or.inl ⟨by rfl, fun w' hSw => ?_⟩) hHeld ?_
    · dsimp only at hSw
      go_simp
    simp only [Act.put, List.getElem_toArray, List.getElem_cons_succ, List.getElem_cons_zero, List.setIfInBounds_toArray, List.set_cons_zero, List.set_cons_succ]
    refine wpAnyH_take (i := 8) (v := .agg s.cells.toArray) rfl (by kernel_rfl) (by kernel_rfl) (by kernel_rfl) (fun _ _ _ h => h) (yieldsIf_load_mid (by rfl) 54 _ rfl Bx 0 (by rfl) s.cells _ (fun w' h => h.2.2) Try.underlying54 rfl (by rw [Sec.cells_length]; exact Try.sizeSec)) hHeld ?_
    simp only [Act.put, List.getElem_toArray, List.getElem_cons_succ, List.getElem_cons_zero, List.setIfInBounds_toArray, List.set_cons_zero, List.set_cons_succ]
    refine wpAnyH_take (i := 9) (v := .agg (wrCells (a + i, s)).toArray) rfl (by kernel_rfl) (by kernel_rfl) (by kernel_rfl) (fun _ _ _ h => h) (yieldsIf_build (by rfl) 64 _ rfl #[(0, .int .i64 ((a : Int) + (i : Int))), (1, .agg s.cells.toArray)] (by simp only [List.map_toArray, List.map_cons, List.map_nil]; rfl) _ (fun w' => by have := run_build_wr w' (a + i) s; rwa [Int.natCast_add] at this)) hHeld ?_
    simp only [Act.put, List.getElem_toArray, List.getElem_cons_succ, List.getElem_cons_zero, List.setIfInBounds_toArray, List.set_cons_zero, List.set_cons_succ]
    refine wpAnyH_ready (rs := [4, 10]) (by kernel_rfl) (by simp) ?_
    refine AllReadyH.cons rfl (fun KK hK => ?_) (AllReadyH.cons rfl (fun KK hK => ?_) AllReadyH.nil)
    · simp only [List.getElem_toArray, List.getElem_cons_succ, List.getElem_cons_zero]
      rw [if_pos (by rfl)]
      go_simp
      refine hK.out _ _ HS91.out (fun _ => ?_)
      refine wpAnyH_ready (rs := [10]) (by kernel_rfl) (by simp) ?_
      refine AllReadyH.cons rfl (fun KK hK => ?_) AllReadyH.nil
      simp only [List.getElem_toArray, List.getElem_cons_succ, List.getElem_cons_zero]
      rw [if_pos (by rfl)]
      refine wp_buildSlice 56 64 1 _ (by rfl) (wrCells (a + i, s)).toArray i0 _ Try.underlying56 hi hz0 (by rw [hz1]; decide) (by rw [hz1]; decide) (by rw [hz1]; simp only [List.map_toArray, List.map_cons, List.map_nil]; exact fill_one _ (range_size _) (a + i, s)) ?_
      simp only [Act.put, List.setIfInBounds_toArray, List.set_cons_zero, List.set_cons_succ]
      refine hK.out _ _ HS92.out (fun _ => ?_)
      -- append
      refine wpAnyH_ready (rs := [11]) (by kernel_rfl) (by simp) ?_
      refine AllReadyH.cons rfl (fun KK hK => ?_) AllReadyH.nil
      simp only [List.getElem_toArray, List.getElem_cons_succ, List.getElem_cons_zero]
      rw [if_pos (by rfl)]
      refine wp_append_lies _ (.tmp 45) (.tmp 51) 56 (by rfl) 0 64 i0 _ 129 136 Try.underlying56 hi hz0 hz1 hz2 (by simp [Value.cells]) (by decide) (.slice aw q cw) q (flatW U.waits) (by rfl) HOW2.out ⟨W1.heap.size, 0, none⟩ 1 1 (wrCells (a + i, s)) (by rfl) (by rw [wrCells_length]) HNEWS.out (wrCells_one _) (by decide) (by unfold maxLen; omega) (by omega) (Nat.zero_le _) (W1.heap.size + 1) (by show (W1.alloc _).heap.size = _; simp) ?_
      intro g cap3 W3 hown3 hg3 hat3 hlt3
      obtain ⟨hS3, c13, f13, hF3⟩ := HFIN.out g cap3 W3 hown3 hg3 hat3 hlt3
      have HF3 : Hid _ := hF3
      clear hown3 hg3 hat3 hlt3 hF3
      simp only [Act.put, List.setIfInBounds_toArray, List.set_cons_zero, List.set_cons_succ]
      refine hK.out _ _ hS3 (fun hHeld => ?_)
      refine wpAnyH_take (i := 12) (v := .pointer (some ⟨L.b, 0, none⟩)) rfl (by kernel_rfl) (by kernel_rfl) (by kernel_rfl) (fun _ _ _ h => h) (Or.inl ⟨by rfl, fun w' hSw => ?_⟩) hHeld ?_
      · dsimp only at hSw
        go_simp
      simp only [Act.put, List.getElem_toArray, List.getElem_cons_succ, List.getElem_cons_zero, List.setIfInBounds_toArray, List.set_cons_zero, List.set_cons_succ]
      refine wpAnyH_take (i := 13) (v := .pointer (some ⟨L.b, 1, none⟩)) rfl (by kernel_rfl) (by kernel_rfl) (by kernel_rfl) (fun _ _ _ h => h) (Or.inl ⟨by rfl, fun w' hSw => ?_⟩) hHeld ?_
      · dsimp only at hSw
        go_simp
      simp only [Act.put, List.getElem_toArray, List.getElem_cons_succ, List.getElem_cons_zero, List.setIfInBounds_toArray, List.set_cons_zero, List.set_cons_succ]
      refine wpAnyH_ready (rs := [14]) (by kernel_rfl) (by simp) ?_
      refine AllReadyH.cons rfl (fun KK hK => ?_) AllReadyH.nil
      simp only [List.getElem_toArray, List.getElem_cons_succ, List.getElem_cons_zero]
      rw [if_pos (by rfl)]
      go_simp
      refine hK.out _ _ HF3.out.1 (fun _ => ?_)
      refine wpAnyH_done (by kernel_rfl) ?_ _
      have c43 := HF3.out.2.1
      have f43 := HF3.out.2.2.1
      have d43 := HF3.out.2.2.2.1
      have HEND : Hid _ := HF3.out.2.2.2.2
      clear HF3
      gi_wp2
      exact HEND.out
    · simp only [List.getElem_toArray, List.getElem_cons_succ, List.getElem_cons_zero]
      rw [if_pos (by rfl)]
      refine wp_buildSlice 56 64 1 _ (by rfl) (wrCells (a + i, s)).toArray i0 _ Try.underlying56 hi hz0 (by rw [hz1]; decide) (by rw [hz1]; decide) (by rw [hz1]; simp only [List.map_toArray, List.map_cons, List.map_nil]; exact fill_one _ (range_size _) (a + i, s)) ?_
      simp only [Act.put, List.setIfInBounds_toArray, List.set_cons_zero, List.set_cons_succ]
      refine hK.out _ _ HS92.out (fun _ => ?_)
      -- the slice's head is read
      refine wpAnyH_ready (rs := [4]) (by kernel_rfl) (by simp) ?_
      refine AllReadyH.cons rfl (fun KK hK => ?_) AllReadyH.nil
      simp only [List.getElem_toArray, List.getElem_cons_succ, List.getElem_cons_zero]
      rw [if_pos (by rfl)]
      go_simp
      refine hK.out _ _ HS92.out (fun _ => ?_)
      -- append
      refine wpAnyH_ready (rs := [11]) (by kernel_rfl) (by simp) ?_
      refine AllReadyH.cons rfl (fun KK hK => ?_) AllReadyH.nil
      simp only [List.getElem_toArray, List.getElem_cons_succ, List.getElem_cons_zero]
      rw [if_pos (by rfl)]
      refine wp_append_lies _ (.tmp 45) (.tmp 51) 56 (by rfl) 0 64 i0 _ 129 136 Try.underlying56 hi hz0 hz1 hz2 (by simp [Value.cells]) (by decide) (.slice aw q cw) q (flatW U.waits) (by rfl) HOW2.out ⟨W1.heap.size, 0, none⟩ 1 1 (wrCells (a + i, s)) (by rfl) (by rw [wrCells_length]) HNEWS.out (wrCells_one _) (by decide) (by unfold maxLen; omega) (by omega) (Nat.zero_le _) (W1.heap.size + 1) (by show (W1.alloc _).heap.size = _; simp) ?_
      intro g cap3 W3 hown3 hg3 hat3 hlt3
      obtain ⟨hS3, c13, f13, hF3⟩ := HFIN.out g cap3 W3 hown3 hg3 hat3 hlt3
      have HF3 : Hid _ := hF3
      clear hown3 hg3 hat3 hlt3 hF3
      simp only [Act.put, List.setIfInBounds_toArray, List.set_cons_zero, List.set_cons_succ]
      refine hK.out _ _ hS3 (fun hHeld => ?_)
      refine wpAnyH_take (i := 12) (v := .pointer (some ⟨L.b, 0, none⟩)) rfl (by kernel_rfl) (by kernel_rfl) (by kernel_rfl) (fun _ _ _ h => h) (Or.inl ⟨by rfl, fun w' hSw => ?_⟩) hHeld ?_
      · dsimp only at hSw
        go_simp
      simp only [Act.put, List.getElem_toArray, List.getElem_cons_succ, List.getElem_cons_zero, List.setIfInBounds_toArray, List.set_cons_zero, List.set_cons_succ]
      refine wpAnyH_take (i := 13) (v := .pointer (some ⟨L.b, 1, none⟩)) rfl (by kernel_rfl) (by kernel_rfl) (by kernel_rfl) (fun _ _ _ h => h) (Or.inl ⟨by rfl, fun w' hSw => ?_⟩) hHeld ?_
      · dsimp only at hSw
        go_simp
      simp only [Act.put, List.getElem_toArray, List.getElem_cons_succ, List.getElem_cons_zero, List.setIfInBounds_toArray, List.set_cons_zero, List.set_cons_succ]
      refine wpAnyH_ready (rs := [14]) (by kernel_rfl) (by simp) ?_
      refine AllReadyH.cons rfl (fun KK hK => ?_) AllReadyH.nil
      simp only [List.getElem_toArray, List.getElem_cons_succ, List.getElem_cons_zero]
      rw [if_pos (by rfl)]
      go_simp
      refine hK.out _ _ HF3.out.1 (fun _ => ?_)
      refine wpAnyH_done (by kernel_rfl) ?_ _
      have c43 := HF3.out.2.1
      have f43 := HF3.out.2.2.1
      have d43 := HF3.out.2.2.2.1
      have HEND : Hid _ := HF3.out.2.2.2.2
      clear HF3
      gi_wp2
      exact HEND.out
  case done =>
    rintro D ys W hDl rfl ⟨⟨wv, hD⟩, hBd1, hBa1, hK1, hle⟩ hKd
    have HD5 : Hid ((∃ wv, IsDisk K (W.putObj D (.deferred none)) { L with wv := wv } (wroteSt S.spent a (valW (xsTo zs m m)))) ∧ Kept K w (W.putObj D (.deferred none))) := by
      rw [HT.out]
      refine ⟨⟨wv, ((hD.own (grownBy_putObj' W D _) (B0 := W0.heap.size) (fun r e => by cases e; exact ⟨hDl, _, hKd, rfl⟩) hmb).less (fun k hk => .inl (.inl hk)))⟩, hK1.grown (grownBy_putObj' W D _) (fun k hk => by have := HKL.out k hk; exact ⟨by omega, fun e => by cases e; omega⟩)⟩
    clear hD hBd1 hBa1 hK1
    go_wp2
    refine ⟨by simp, .inl ⟨_, _, rfl, run_takeDeferred hKd, ?_⟩⟩
    exact ⟨_, results_tmp rfl _ _ _, rfl, HD5.out.1, HD5.out.2⟩
  case stop =>
    rintro D c pre W _ _ h _
    exact h.elim
end Go.Proofs.Ytjjodmppneonjaa
