/- Contracts of 'New' and 'forget'. -/
import Derived.Test.YtjjodmppneonjaaWalkDisk1
import Derived.Deep.WholeRow
namespace Go.Proofs.Ytjjodmppneonjaa
open Go.RowKit
open Go.MapKept Go.ChangeMaps
set_option linter.unusedVariables false

/-- 'make([]T, n)': the very block. -/
theorem wpList_make_rows {P : Program} (w : World) {ops : Array Oper} {rest : List Oper} {o : Oper} {a : Act} {Q : Exit → Act → World → Prop}
    (hg : o.guard = none) (l c : Operand) (t : TypeId) (hop : o.op = Op.makeSlice t l c)
    (e : TypeId) (i : TypeInfo) (z : Value) (size : Nat) (h1 : P.underlying t = some (.slice e)) (h2 : P.info? e = some i) (h3 : i.zero = some z) (h4 : i.size = size)
    (kl kc : IntKind) (n m : Nat) (hnm : n ≤ m) (hl : a.eval l = .int kl (n : Int)) (hc : a.eval c = .int kc (m : Int)) (b2 : i.bytes * m ≤ 281474976710656) (b3 : m ≤ maxLen)
    (hK : wpList P ops Q rest (a.put o.dst (.slice (some ⟨w.heap.size, 0, none⟩) n m)) (w.alloc (.cells (madeCells z.cells (m * size)) e))) :
    wpList P ops Q (o :: rest) a w := by
  refine wpList_plain hg fun K hK' => ?_
  have h63 : (m : Int) ≤ 9223372036854775807 := by unfold maxLen at b3; omega
  have hb' : (i.bytes : Int) * (m : Int) ≤ 281474976710656 := by
    have h : ((i.bytes * m : Nat) : Int) ≤ 281474976710656 := by omega
    rwa [Int.natCast_mul] at h
  have hrun := run_make (P := P) w t e i z h1 h2 h3 kl kc n m (by omega) (by omega) hb' h63
  simp only [Int.toNat_natCast, h4] at hrun
  unfold Oper.wp
  simp [execOp, hop, hl, hc, hrun, Result.andThen]
  exact hK' _ _ hK

theorem wpList_clear_own {H : Type} {P : Program} (w : World) {ops : Array Oper} {rest : List Oper} {o : Oper} {a : Act} {Q : Exit → Act → World → Prop} (hg : o.guard = none) (m : Operand) (t : TypeId)
    (hop : o.op = Op.call { callee := Callee.builtin Builtin.clear, args := #[m], argTypes := #[t] }) (k e : TypeId) (ht : P.underlying t = some (.map k e))
    (R : Value → Option (DataW H × List MemPlace)) (b n : Nat) (D : DataW H) (hm : a.eval m = .map (some b)) (hown : w.ownsMap P k R b n D)
    (hK : ∀ w', w'.ownsMap P k R b 0 (.map []) → w.grownBy w' (some b) → wpList P ops Q rest (a.put o.dst (.tuple #[])) w') : wpList P ops Q (o :: rest) a w := by
  refine wpList_plain hg fun K' hK' => ?_
  obtain ⟨es, clock, hb, F, hs, rfl⟩ := hown
  have hrun : (Builtin.clear_ #[t] o.type #[.map (some b)]).run P w = .ok (.tuple #[]) (setBlock w b (.map #[] clock)) := by
    simp [Builtin.clear_, run_underlying ht, MapKept.run_getObj_map hb, MapKept.run_setObj_map _ hb, Result.andThen, setBlock]
  unfold Oper.wp
  simp [execOp, hop, resolve, invoke, builtin, hm, hrun, Result.andThen]
  refine hK' _ _ (hK _ ⟨#[], clock, heap_setBlock_same hb _, ⟨by simp, stamped_empty _, by simp⟩, by simp, rfl⟩ ?_)
  exact ⟨rfl, rfl, rfl, by simp [setBlock], fun i _ hi => heap_setBlock_other hb _ (fun e => hi (by rw [e]))⟩

theorem lastOf_nil (k : Nat) : lastOf [] k = none := rfl
theorem latest_nil : Latest (.map []) [] := fun k _ => ⟨fun _ => rfl, fun i h => by simp [lastOf_nil] at h⟩

theorem Try.infoSec : (Try.prog.info? 54).map (fun i => (i.zero, i.size, i.bytes)) = some (some (.agg (Array.replicate 128 (.int .u8 0))), 128, 128) := by kernel_rfl

def freshSt (n : Nat) : St := { n := n, safe := fun _ => Sec.zero, waits := [], written := 0, left := -1 }

theorem made_get (m j : Nat) (h : j < m) : (madeCells (Array.replicate 128 (Value.int .u8 0)) m)[j]? = some (.int .u8 0) := by
  have h2 : j % 128 < 128 := Nat.mod_lt _ (by decide)
  simp [madeCells, h, Array.getElem!_eq_getD, Array.getD, h2]

theorem zero_cells {n i j : Nat} {v : Value} (hv : (((freshSt n).safe i).cells)[j]? = some v) : v = .int .u8 0 := by
  have e : ((freshSt n).safe i).cells = List.replicate 128 (Value.int .u8 (0 : Nat)) := by simp only [freshSt, Sec.cells, Sec.zero, u8s, List.map_replicate]
  rw [e] at hv
  exact List.eq_of_mem_replicate (List.mem_of_getElem? hv)
theorem fresh_disk (K : Nat → Prop) (w : World) (n : Nat) (h1 : 1 ≤ n) (h2 : n ≤ 65536) (hK : ∀ k, K k → k < w.heap.size) :
    IsDisk K (((w.alloc (.cells (madeCells (Array.replicate 128 (Value.int .u8 0)) (n * 128)) 54)).alloc (.map #[] 0)).alloc (.cells #[.slice (some ⟨w.heap.size, 0, none⟩) n n, .slice none 0 0, .map (some (w.heap.size + 1)), .int .i64 0, .int .i64 (-1)] 59))
      ⟨w.heap.size + 2, w.heap.size, w.heap.size + 1, .slice none 0 0⟩ (freshSt n) := by
  generalize hC : madeCells (Array.replicate 128 (Value.int .u8 0)) (n * 128) = C
  have hb0 : (((w.alloc (.cells C 54)).alloc (.map #[] 0)).alloc (.cells #[.slice (some ⟨w.heap.size, 0, none⟩) n n, .slice none 0 0, .map (some (w.heap.size + 1)), .int .i64 0, .int .i64 (-1)] 59)).heap[w.heap.size]? = some (.cells C 54 (0, 0)) := by
    rw [Below.heap_alloc _ _ _ (by simp; omega), Below.heap_alloc _ _ _ (by simp)]
    exact heap_alloc_last w _
  refine ⟨?_, ?_, ?_, ⟨rfl, .inl ⟨rfl, rfl⟩⟩, ⟨.map [], ?_, latest_nil⟩, ?_, ?_, by simp, by simp, by simp, (fun g hg => by cases hg), ?_, ⟨h1, h2, by simp [freshSt], by simp [freshSt], by simp [freshSt], by simp [freshSt], by simp [freshSt]⟩⟩
  · have := heap_alloc_last ((w.alloc (.cells C 54)).alloc (.map #[] 0)) (.cells #[.slice (some ⟨w.heap.size, 0, none⟩) n n, .slice none 0 0, .map (some (w.heap.size + 1)), .int .i64 0, .int .i64 (-1)] 59)
    rw [World.size_alloc, World.size_alloc] at this
    exact this
  · intro i hi j v hv
    simp only [freshSt] at hi
    have hj : j < 128 := by have := (List.getElem?_eq_some_iff.1 hv).1; rwa [Sec.cells_length] at this
    rw [cell_of_row _ _ _ _ _ _ hb0, ← hC, made_get _ _ (by omega)]
    rw [zero_cells hv]
  · intro j hj
    simp only [freshSt] at hj
    refine ⟨?_, by simp [World.frozen?, hb0]⟩
    rw [cell_of_row _ _ _ _ _ _ hb0, ← hC, made_get _ _ (by omega)]
    rfl
  · have := World.ownsMap_made (w.alloc (.cells C 54)) Try.prog 3 (plainElem (H := Unit) Try.prog 3)
    have := this.alloc (.cells #[.slice (some ⟨w.heap.size, 0, none⟩) n n, .slice none 0 0, .map (some (w.heap.size + 1)), .int .i64 0, .int .i64 (-1)] 59)
    simpa [freshSt] using this
  · rintro k (rfl | rfl | rfl | h) hk
    · have := hK _ hk; simp only at this; omega
    · have := hK _ hk; simp only at this; omega
    · have := hK _ hk; simp only at this; omega
    · cases h
  · rintro k (rfl | rfl | rfl | h)
    · simp
    · simp; omega
    · simp
    · cases h
  · intro k hk
    have := hK k hk
    simp; omega

set_option maxHeartbeats 400000 in
theorem new_v (K : Nat → Prop) (w : World) (n : Nat) (h1 : 1 ≤ n) (h2 : n ≤ 65536) (hK : ∀ k, K k → k < w.heap.size) :
    Calls Try.prog 13 #[.int .i64 (n : Nat)] w fun e w' => ∃ L : Loc, e = .returned (.tuple #[.pointer (some ⟨L.b, 0, none⟩), .int .i64 0]) ∧ IsDisk K w' L (freshSt n) ∧ Below w.heap.size w w' ∧ (∀ k, L.foot k → w.heap.size ≤ k) := by
  obtain ⟨i0, hi, hz0, hz1, hz2⟩ := info_parts Try.infoSec
  have hmm := @run_makeMap Try.prog
  have HK : Hid (∀ k, K k → k < w.heap.size) := hK
  clear hK
  go_enter Try.func13, Try.ntmps13
  go_wp2_with (at_make; refine wpList_make_rows _ rfl _ _ 55 rfl 54 i0 _ 128 Try.underlying55 hi hz0 hz1 .i64 .i64 n n (Nat.le_refl _) rfl rfl ?c1 ?c2 ?_)
  case c1 => rw [hz2]; omega
  case c2 => unfold maxLen; omega
  go_wp2
  go_ret2
  refine ⟨⟨w.heap.size + 2, w.heap.size, w.heap.size + 1, .slice none 0 0⟩, rfl, fresh_disk K w n h1 h2 HK.out, (((Below.refl _ w).alloc (Nat.le_refl _) _).alloc (by simp) _).alloc (by simp; omega) _, ?_⟩
  rintro k (rfl | rfl | rfl | h)
  · simp
  · simp
  · simp
  · cases h
theorem new_bad (w : World) (n : Int) (h : n < 1 ∨ 65536 < n) :
    Calls Try.prog 13 #[.int .i64 n] w fun e w' => e = .returned (.tuple #[.pointer none, .int .i64 2]) ∧ w' = w := by
  by_cases h1 : n < 1
  · go_enter Try.func13, Try.ntmps13
    go_wp2
    go_ret2
    exact ⟨rfl, rfl⟩
  · have h2 : 65536 < n := by omega
    go_enter Try.func13, Try.ntmps13
    go_wp2
    go_ret2
    exact ⟨rfl, rfl⟩

def St.forgot (S : St) : St := { S with waits := [] }
set_option maxHeartbeats 400000 in
theorem forget_v {K : Nat → Prop} {w : World} {L : Loc} {S : St} (h : IsDisk K w L S) :
    Calls Try.prog 24 #[.pointer (some ⟨L.b, 0, none⟩)] w fun e w' => (∃ v, e = .returned v) ∧ IsDisk K w' { L with wv := .slice none 0 0 } S.forgot ∧ Kept K w w' := by
  obtain ⟨D, hD, hL⟩ := h.map
  have H : Hid (IsDisk K w L S) := h
  obtain ⟨_, c1, c2, _, _⟩ := h.head.cell
  have f1 := h.head.frozen 1
  have c2' : (w.setCell ⟨L.b, 1, none⟩ (.slice none 0 0)).cell? ⟨L.b, 2, none⟩ = some (.map (some L.mb)) := (h.head.set1 _).cell.2.2.1
  obtain ⟨a, cap, e⟩ := wv_shape h.waits
  rw [e] at c1
  have hown : (w.setCell ⟨L.b, 1, none⟩ (.slice none 0 0)).ownsMap Try.prog 3 (plainElem (H := Unit) Try.prog 3) L.mb S.waits.length D := hD.setCell h.ne2.symm _
  have HO : Hid ((w.setCell ⟨L.b, 1, none⟩ (.slice none 0 0)).ownsMap Try.prog 3 (plainElem (H := Unit) Try.prog 3) L.mb S.waits.length D) := hown
  clear h hD hL hown e
  generalize S.waits.length = m at HO c1
  go_enter Try.func24, Try.ntmps24
  go_wp2_with (refine wpList_clear_own _ rfl _ 57 rfl 3 3 Try.underlying57 _ L.mb m D rfl HO.out ?_; intro w1 hown1 hg1)
  have HO1 : Hid (w1.ownsMap Try.prog 3 (plainElem (H := Unit) Try.prog 3) L.mb 0 (.map [])) := hown1
  have HG1 : Hid ((w.setCell ⟨L.b, 1, none⟩ (.slice none 0 0)).grownBy w1 (some L.mb)) := hg1
  clear hown1 hg1
  go_wp2
  go_end0
  have h := H.out
  have hs : w.heap.size ≤ w1.heap.size := by have := HG1.out.size; simpa using this
  have hb : ∀ k, k < w.heap.size → k ≠ L.b → k ≠ L.mb → w1.heap[k]? = w.heap[k]? := fun k hk e1 e2 =>
    (HG1.out.block k (by simpa using hk) (fun e => e2 (by cases e; rfl))).trans (Below.heap_setCell w _ _ k e1)
  refine ⟨⟨_, rfl⟩, ⟨?_, ?_, ?_, ⟨rfl, .inl ⟨rfl, rfl⟩⟩, ⟨.map [], HO1.out, latest_nil⟩, ?_, ?_, h.ne1, h.ne2, h.ne3, (fun g hg => by cases hg), ?_, ⟨h.ok.n1, h.ok.n2, by simp [St.forgot], by simp [St.forgot], h.ok.wr, h.ok.l1, h.ok.l2⟩⟩, ?_⟩
  · exact (HG1.out.block L.b (by simpa using h.head.lt) (fun e => h.ne2 (Option.some.inj e))).trans (h.head.set1 _)
  · exact fun i hi => rangeAt_same (h.safe i hi) (hb _ (h.lt _ (.inr (.inl rfl))) h.ne1.symm h.ne3)
  · exact there_same h.there (hb _ (h.lt _ (.inr (.inl rfl))) h.ne1.symm h.ne3)
  · rintro k (hk | hk | hk | hk)
    · exact h.nK k (.inl hk)
    · exact h.nK k (.inr (.inl hk))
    · exact h.nK k (.inr (.inr (.inl hk)))
    · cases hk
  · rintro k (hk | hk | hk | hk)
    · exact Nat.lt_of_lt_of_le (h.lt k (.inl hk)) hs
    · exact Nat.lt_of_lt_of_le (h.lt k (.inr (.inl hk))) hs
    · exact Nat.lt_of_lt_of_le (h.lt k (.inr (.inr (.inl hk)))) hs
    · cases hk
  · exact fun k hk => Nat.lt_of_lt_of_le (h.kl k hk) hs
  · refine ⟨HG1.out.os, HG1.out.tape, HG1.out.output, hs, fun k hk => hb k (h.kl k hk) ?_ ?_⟩
    · rintro rfl; exact h.nK _ (.inl rfl) hk
    · rintro rfl; exact h.nK _ (.inr (.inr (.inl rfl))) hk
end Go.Proofs.Ytjjodmppneonjaa
