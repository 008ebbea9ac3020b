/- Some texts of mine, one behind the other (joined by program). -/
import Derived.Test.YthhdkadjlddmkaaDoorDisk
import Derived.Deep.WholeRow
import Derived.Deep.RegionHeld3
import Derived.RangeFuncNested
import Derived.RangeFuncBound
import Derived.RangeFuncCalls
import Derived.RangeFuncLeaves
import Derived.Shelf.Abstract
import Derived.OwnWalkIn
import Derived.TacticsInMore
import Derived.LoopNIn
import Derived.LoopIn
import Derived.Great.FillDense
import Derived.Great.BuildSlice
import Derived.Deep.AppendLies

/- Contracts of the disk's small methods. -/
namespace Go.Proofs.YthhdkadjlddmkaaDoor
open Go.RowKit
set_option linter.unusedVariables false

def St.spent (S : St) : St := { S with left := if 0 < S.left then S.left - 1 else S.left }

set_option maxRecDepth 100000 in
set_option maxHeartbeats 400000 in
theorem spend_raw (w : World) (b : Nat) (l : Int) (c4 : w.cell? ⟨b, 4, none⟩ = some (.int .i64 l)) (f4 : w.frozen? ⟨b, 4, none⟩ = false) (h1 : -1 ≤ l) (h2 : l ≤ 9223372036854775807) :
    Calls Tryd.prog 58 #[.pointer (some ⟨b, 0, none⟩)] w fun e w' => e = .returned (.bool (decide (l ≠ 0))) ∧ ((l ≤ 0 ∧ w' = w) ∨ (0 < l ∧ w' = w.setCell ⟨b, 4, none⟩ (.int .i64 (l - 1)))) := by
  by_cases h0 : l = 0
  · subst h0
    go_enter Tryd.func58, Tryd.ntmps58
    go_wp2
    go_ret
    exact ⟨by simp, .inl ⟨by omega, rfl⟩⟩
  · by_cases h3 : 0 < l
    · have e1 : IntKind.i64.wrap (l - 1) = l - 1 := by rw [IntKind.wrap_i64]; omega
      go_enter Tryd.func58, Tryd.ntmps58
      go_wp2
      go_ret
      first
        | exact ⟨by simp [h0], .inr ⟨h3, rfl⟩⟩
        | exact ⟨by simp [h0], rfl⟩
    · go_enter Tryd.func58, Tryd.ntmps58
      go_wp2
      go_ret
      first
        | exact ⟨by simp [h0], .inl ⟨by omega, rfl⟩⟩
        | exact ⟨by simp, .inl rfl⟩

theorem spend_v {K : Nat → Prop} {w : World} {L : Loc} {S : St} (h : IsDisk K w L S) :
    Calls Tryd.prog 58 #[.pointer (some ⟨L.b, 0, none⟩)] w fun e w' => e = .returned (.bool (decide (S.left ≠ 0))) ∧ IsDisk K w' L S.spent ∧ Kept K w w' := by
  refine (spend_raw w L.b S.left h.head.cell.2.2.2.2 (h.head.frozen 4) h.ok.l1 h.ok.l2).mono ?_
  rintro e w' ⟨rfl, ⟨h0, rfl⟩ | ⟨h0, rfl⟩⟩
  · refine ⟨rfl, ?_, Kept.refl _ _⟩
    rw [St.spent, if_neg (by omega)]; exact h
  · refine ⟨rfl, ?_, (Kept.refl _ _).setCell (h.nK _ (.inl rfl)) _⟩
    rw [St.spent, if_pos h0]
    have := h.ok.l2
    exact h.setLeft _ (by omega) (by omega)

def hasN (n : Nat) (at' k : Int) : Bool := decide (0 ≤ at' ∧ at' ≤ n ∧ 0 ≤ k ∧ k ≤ n - at')
set_option maxRecDepth 100000 in
set_option maxHeartbeats 800000 in
theorem has_raw (w : World) (b sb n : Nat) (at' k : Int) (c0 : w.cell? ⟨b, 0, none⟩ = some (.slice (some ⟨sb, 0, none⟩) n n)) (hn : n ≤ 65536) :
    Calls Tryd.prog 57 #[.pointer (some ⟨b, 0, none⟩), .int .i64 at', .int .i64 k] w fun e w' => e = .returned (.bool (hasN n at' k)) ∧ w' = w := by
  have HB : Hid (hasN n at' k = decide (0 ≤ at' ∧ at' ≤ n ∧ 0 ≤ k ∧ k ≤ n - at')) := rfl
  generalize hasN n at' k = B at HB
  by_cases h1 : 0 ≤ at'
  · by_cases h2 : at' ≤ n
    · by_cases h3 : 0 ≤ k
      · have e1 : IntKind.i64.wrap ((n : Int) - at') = n - at' := by rw [IntKind.wrap_i64]; omega
        by_cases h4 : k ≤ n - at'
        · go_enter Tryd.func57, Tryd.ntmps57
          go_wp2
          go_ret
          exact ⟨by rw [HB.out, decide_eq_true (by omega)]; rfl, rfl⟩
        · go_enter Tryd.func57, Tryd.ntmps57
          go_wp2
          go_ret
          exact ⟨by rw [HB.out, decide_eq_false (by omega)]; rfl, rfl⟩
      · go_enter Tryd.func57, Tryd.ntmps57
        go_wp2
        go_ret
        exact ⟨by rw [HB.out, decide_eq_false (by omega)]; rfl, rfl⟩
    · go_enter Tryd.func57, Tryd.ntmps57
      go_wp2
      go_ret
      exact ⟨by rw [HB.out, decide_eq_false (by omega)]; rfl, rfl⟩
  · go_enter Tryd.func57, Tryd.ntmps57
    go_wp2
    go_ret
    exact ⟨by rw [HB.out, decide_eq_false (by omega)]; rfl, rfl⟩
theorem has_v {K : Nat → Prop} {w : World} {L : Loc} {S : St} (h : IsDisk K w L S) (at' k : Int) :
    Calls Tryd.prog 57 #[.pointer (some ⟨L.b, 0, none⟩), .int .i64 at', .int .i64 k] w fun e w' => e = .returned (.bool (hasN S.n at' k)) ∧ w' = w :=
  has_raw w L.b L.sb S.n at' k h.head.cell.1 h.ok.n2

theorem size_v {K : Nat → Prop} {w : World} {L : Loc} {S : St} (h : IsDisk K w L S) :
    Calls Tryd.prog 34 #[.pointer (some ⟨L.b, 0, none⟩)] w fun e w' => e = .returned (.int .i64 (S.n : Nat)) ∧ w' = w := by
  have c0 := h.head.cell.1
  clear h
  go_enter Tryd.func34, Tryd.ntmps34
  go_wp2
  go_ret
  exact ⟨rfl, rfl⟩
theorem wv_shape {w : World} {wv : Value} {n : Nat} {xs : List Value} (h : w.ownsRow 0 72 129 wv n xs) : ∃ a cap, wv = .slice a n cap := by
  rcases h.2 with ⟨rfl, h0⟩ | ⟨g, cap, cur, rfl, _⟩
  · exact ⟨none, 0, by rw [h0]⟩
  · exact ⟨_, cap, rfl⟩
def limitOf (c : Int) : Int := if c < 0 then -1 else c
set_option maxRecDepth 100000 in
set_option maxHeartbeats 400000 in
theorem limit_v {K : Nat → Prop} {w : World} {L : Loc} {S : St} (h : IsDisk K w L S) (c : Int) (hc : c ≤ 9223372036854775807) :
    Calls Tryd.prog 14 #[.pointer (some ⟨L.b, 0, none⟩), .int .i64 c] w fun e w' => (∃ v, e = .returned v) ∧ IsDisk K w' L { S with left := limitOf c } ∧ Kept K w w' := by
  have H : Hid (IsDisk K w L S) := h
  have c4 := h.head.cell.2.2.2.2
  have f4 := h.head.frozen 4
  have n4 := h.nK _ (.inl rfl)
  clear h
  have HL : Hid (limitOf c = if c < 0 then -1 else c) := rfl
  by_cases h0 : c < -1
  · go_enter Tryd.func14, Tryd.ntmps14
    go_wp2
    go_end0
    refine ⟨⟨_, rfl⟩, ?_, (Kept.refl _ _).setCell n4 _⟩
    rw [HL.out, if_pos (by omega)]
    exact H.out.setLeft _ (by omega) (by omega)
  · go_enter Tryd.func14, Tryd.ntmps14
    go_wp2
    go_end0
    refine ⟨⟨_, rfl⟩, ?_, (Kept.refl _ _).setCell n4 _⟩
    rw [HL.out]
    have : (if c < 0 then -1 else c) = c := by split <;> omega
    rw [this]
    exact H.out.setLeft _ (by omega) (by omega)
end Go.Proofs.YthhdkadjlddmkaaDoor

/- Contracts of 'New' and 'forget'. -/
namespace Go.Proofs.YthhdkadjlddmkaaDoor
open Go.RowKit
open Go.MapKept Go.ChangeMaps
set_option linter.unusedVariables false

/-- 'make([]T, n)': the very block. -/
theorem wpList_make_rows {P : Program} (w : World) {ops : Array Oper} {rest : List Oper} {o : Oper} {a : Act} {Q : Exit → Act → World → Prop}
    (hg : o.guard = none) (l c : Operand) (t : TypeId) (hop : o.op = Op.makeSlice t l c)
    (e : TypeId) (i : TypeInfo) (z : Value) (size : Nat) (h1 : P.underlying t = some (.slice e)) (h2 : P.info? e = some i) (h3 : i.zero = some z) (h4 : i.size = size)
    (kl kc : IntKind) (n m : Nat) (hnm : n ≤ m) (hl : a.eval l = .int kl (n : Int)) (hc : a.eval c = .int kc (m : Int)) (b2 : i.bytes * m ≤ 281474976710656) (b3 : m ≤ maxLen)
    (hK : wpList P ops Q rest (a.put o.dst (.slice (some ⟨w.heap.size, 0, none⟩) n m)) (w.alloc (.cells (madeCells z.cells (m * size)) e))) :
    wpList P ops Q (o :: rest) a w := by
  refine wpList_plain hg fun K hK' => ?_
  have h63 : (m : Int) ≤ 9223372036854775807 := by unfold maxLen at b3; omega
  have hb' : (i.bytes : Int) * (m : Int) ≤ 281474976710656 := by
    have h : ((i.bytes * m : Nat) : Int) ≤ 281474976710656 := by omega
    rwa [Int.natCast_mul] at h
  have hrun := run_make (P := P) w t e i z h1 h2 h3 kl kc n m (by omega) (by omega) hb' h63
  simp only [Int.toNat_natCast, h4] at hrun
  unfold Oper.wp
  simp [execOp, hop, hl, hc, hrun, Result.andThen]
  exact hK' _ _ hK

theorem wpList_clear_own {H : Type} {P : Program} (w : World) {ops : Array Oper} {rest : List Oper} {o : Oper} {a : Act} {Q : Exit → Act → World → Prop} (hg : o.guard = none) (m : Operand) (t : TypeId)
    (hop : o.op = Op.call { callee := Callee.builtin Builtin.clear, args := #[m], argTypes := #[t] }) (k e : TypeId) (ht : P.underlying t = some (.map k e))
    (R : Value → Option (DataW H × List MemPlace)) (b n : Nat) (D : DataW H) (hm : a.eval m = .map (some b)) (hown : w.ownsMap P k R b n D)
    (hK : ∀ w', w'.ownsMap P k R b 0 (.map []) → w.grownBy w' (some b) → wpList P ops Q rest (a.put o.dst (.tuple #[])) w') : wpList P ops Q (o :: rest) a w := by
  refine wpList_plain hg fun K' hK' => ?_
  obtain ⟨es, clock, hb, F, hs, rfl⟩ := hown
  have hrun : (Builtin.clear_ #[t] o.type #[.map (some b)]).run P w = .ok (.tuple #[]) (setBlock w b (.map #[] clock)) := by
    simp [Builtin.clear_, run_underlying ht, MapKept.run_getObj_map hb, MapKept.run_setObj_map _ hb, Result.andThen, setBlock]
  unfold Oper.wp
  simp [execOp, hop, resolve, invoke, builtin, hm, hrun, Result.andThen]
  refine hK' _ _ (hK _ ⟨#[], clock, heap_setBlock_same hb _, ⟨by simp, stamped_empty _, by simp⟩, by simp, rfl⟩ ?_)
  exact ⟨rfl, rfl, rfl, by simp [setBlock], fun i _ hi => heap_setBlock_other hb _ (fun e => hi (by rw [e]))⟩

theorem lastOf_nil (k : Nat) : lastOf [] k = none := rfl
theorem latest_nil : Latest (.map []) [] := fun k _ => ⟨fun _ => rfl, fun i h => by simp [lastOf_nil] at h⟩

theorem Tryd.infoSec : (Tryd.prog.info? 70).map (fun i => (i.zero, i.size, i.bytes)) = some (some (.agg (Array.replicate 128 (.int .u8 0))), 128, 128) := by kernel_rfl

def freshSt (n : Nat) : St := { n := n, safe := fun _ => Sec.zero, waits := [], written := 0, left := -1 }

theorem made_get (m j : Nat) (h : j < m) : (madeCells (Array.replicate 128 (Value.int .u8 0)) m)[j]? = some (.int .u8 0) := by
  have h2 : j % 128 < 128 := Nat.mod_lt _ (by decide)
  simp [madeCells, h, Array.getElem!_eq_getD, Array.getD, h2]

theorem zero_cells {n i j : Nat} {v : Value} (hv : (((freshSt n).safe i).cells)[j]? = some v) : v = .int .u8 0 := by
  have e : ((freshSt n).safe i).cells = List.replicate 128 (Value.int .u8 (0 : Nat)) := by simp only [freshSt, Sec.cells, Sec.zero, u8s, List.map_replicate]
  rw [e] at hv
  exact List.eq_of_mem_replicate (List.mem_of_getElem? hv)
theorem fresh_disk (K : Nat → Prop) (w : World) (n : Nat) (h1 : 1 ≤ n) (h2 : n ≤ 65536) (hK : ∀ k, K k → k < w.heap.size) :
    IsDisk K (((w.alloc (.cells (madeCells (Array.replicate 128 (Value.int .u8 0)) (n * 128)) 70)).alloc (.map #[] 0)).alloc (.cells #[.slice (some ⟨w.heap.size, 0, none⟩) n n, .slice none 0 0, .map (some (w.heap.size + 1)), .int .i64 0, .int .i64 (-1)] 58))
      ⟨w.heap.size + 2, w.heap.size, w.heap.size + 1, .slice none 0 0⟩ (freshSt n) := by
  generalize hC : madeCells (Array.replicate 128 (Value.int .u8 0)) (n * 128) = C
  have hb0 : (((w.alloc (.cells C 70)).alloc (.map #[] 0)).alloc (.cells #[.slice (some ⟨w.heap.size, 0, none⟩) n n, .slice none 0 0, .map (some (w.heap.size + 1)), .int .i64 0, .int .i64 (-1)] 58)).heap[w.heap.size]? = some (.cells C 70 (0, 0)) := by
    rw [Below.heap_alloc _ _ _ (by simp; omega), Below.heap_alloc _ _ _ (by simp)]
    exact heap_alloc_last w _
  refine ⟨?_, ?_, ?_, ⟨rfl, .inl ⟨rfl, rfl⟩⟩, ⟨.map [], ?_, latest_nil⟩, ?_, ?_, by simp, by simp, by simp, (fun g hg => by cases hg), ?_, ⟨h1, h2, by simp [freshSt], by simp [freshSt], by simp [freshSt], by simp [freshSt], by simp [freshSt]⟩⟩
  · have := heap_alloc_last ((w.alloc (.cells C 70)).alloc (.map #[] 0)) (.cells #[.slice (some ⟨w.heap.size, 0, none⟩) n n, .slice none 0 0, .map (some (w.heap.size + 1)), .int .i64 0, .int .i64 (-1)] 58)
    rw [World.size_alloc, World.size_alloc] at this
    exact this
  · intro i hi j v hv
    simp only [freshSt] at hi
    have hj : j < 128 := by have := (List.getElem?_eq_some_iff.1 hv).1; rwa [Sec.cells_length] at this
    rw [cell_of_row _ _ _ _ _ _ hb0, ← hC, made_get _ _ (by omega)]
    rw [zero_cells hv]
  · intro j hj
    simp only [freshSt] at hj
    refine ⟨?_, by simp [World.frozen?, hb0]⟩
    rw [cell_of_row _ _ _ _ _ _ hb0, ← hC, made_get _ _ (by omega)]
    rfl
  · have := World.ownsMap_made (w.alloc (.cells C 70)) Tryd.prog 3 (plainElem (H := Unit) Tryd.prog 3)
    have := this.alloc (.cells #[.slice (some ⟨w.heap.size, 0, none⟩) n n, .slice none 0 0, .map (some (w.heap.size + 1)), .int .i64 0, .int .i64 (-1)] 58)
    simpa [freshSt] using this
  · rintro k (rfl | rfl | rfl | h) hk
    · have := hK _ hk; simp only at this; omega
    · have := hK _ hk; simp only at this; omega
    · have := hK _ hk; simp only at this; omega
    · cases h
  · rintro k (rfl | rfl | rfl | h)
    · simp
    · simp; omega
    · simp
    · cases h
  · intro k hk
    have := hK k hk
    simp; omega

set_option maxRecDepth 20000 in
set_option maxHeartbeats 400000 in
theorem new_v (K : Nat → Prop) (w : World) (n : Nat) (h1 : 1 ≤ n) (h2 : n ≤ 65536) (hK : ∀ k, K k → k < w.heap.size) :
    Calls Tryd.prog 8 #[.int .i64 (n : Nat)] w fun e w' => ∃ L : Loc, e = .returned (.tuple #[.pointer (some ⟨L.b, 0, none⟩), .int .i64 0]) ∧ IsDisk K w' L (freshSt n) ∧ Below w.heap.size w w' ∧ (∀ k, L.foot k → w.heap.size ≤ k) := by
  obtain ⟨i0, hi, hz0, hz1, hz2⟩ := info_parts Tryd.infoSec
  have hmm := @run_makeMap Tryd.prog
  have HK : Hid (∀ k, K k → k < w.heap.size) := hK
  clear hK
  go_enter Tryd.func8, Tryd.ntmps8
  go_wp2_with (at_make; refine wpList_make_rows _ rfl _ _ 54 rfl 70 i0 _ 128 Tryd.underlying54 hi hz0 hz1 .i64 .i64 n n (Nat.le_refl _) rfl rfl ?c1 ?c2 ?_)
  case c1 => rw [hz2]; omega
  case c2 => unfold maxLen; omega
  go_wp2
  go_ret2
  refine ⟨⟨w.heap.size + 2, w.heap.size, w.heap.size + 1, .slice none 0 0⟩, rfl, fresh_disk K w n h1 h2 HK.out, (((Below.refl _ w).alloc (Nat.le_refl _) _).alloc (by simp) _).alloc (by simp; omega) _, ?_⟩
  rintro k (rfl | rfl | rfl | h)
  · simp
  · simp
  · simp
  · cases h
theorem new_bad (w : World) (n : Int) (h : n < 1 ∨ 65536 < n) :
    Calls Tryd.prog 8 #[.int .i64 n] w fun e w' => e = .returned (.tuple #[.pointer none, .int .i64 2]) ∧ w' = w := by
  by_cases h1 : n < 1
  · go_enter Tryd.func8, Tryd.ntmps8
    go_wp2
    go_ret2
    exact ⟨rfl, rfl⟩
  · have h2 : 65536 < n := by omega
    go_enter Tryd.func8, Tryd.ntmps8
    go_wp2
    go_ret2
    exact ⟨rfl, rfl⟩

def St.forgot (S : St) : St := { S with waits := [] }
set_option maxRecDepth 100000 in
set_option maxHeartbeats 400000 in
theorem forget_v {K : Nat → Prop} {w : World} {L : Loc} {S : St} (h : IsDisk K w L S) :
    Calls Tryd.prog 29 #[.pointer (some ⟨L.b, 0, none⟩)] w fun e w' => (∃ v, e = .returned v) ∧ IsDisk K w' { L with wv := .slice none 0 0 } S.forgot ∧ Kept K w w' := by
  obtain ⟨D, hD, hL⟩ := h.map
  have H : Hid (IsDisk K w L S) := h
  obtain ⟨_, c1, c2, _, _⟩ := h.head.cell
  have f1 := h.head.frozen 1
  have c2' : (w.setCell ⟨L.b, 1, none⟩ (.slice none 0 0)).cell? ⟨L.b, 2, none⟩ = some (.map (some L.mb)) := (h.head.set1 _).cell.2.2.1
  obtain ⟨a, cap, e⟩ := wv_shape h.waits
  rw [e] at c1
  have hown : (w.setCell ⟨L.b, 1, none⟩ (.slice none 0 0)).ownsMap Tryd.prog 3 (plainElem (H := Unit) Tryd.prog 3) L.mb S.waits.length D := hD.setCell h.ne2.symm _
  have HO : Hid ((w.setCell ⟨L.b, 1, none⟩ (.slice none 0 0)).ownsMap Tryd.prog 3 (plainElem (H := Unit) Tryd.prog 3) L.mb S.waits.length D) := hown
  clear h hD hL hown e
  generalize S.waits.length = m at HO c1
  go_enter Tryd.func29, Tryd.ntmps29
  go_wp2_with (refine wpList_clear_own _ rfl _ 55 rfl 3 3 Tryd.underlying55 _ L.mb m D rfl HO.out ?_; intro w1 hown1 hg1)
  have HO1 : Hid (w1.ownsMap Tryd.prog 3 (plainElem (H := Unit) Tryd.prog 3) L.mb 0 (.map [])) := hown1
  have HG1 : Hid ((w.setCell ⟨L.b, 1, none⟩ (.slice none 0 0)).grownBy w1 (some L.mb)) := hg1
  clear hown1 hg1
  go_wp2
  go_end0
  have h := H.out
  have hs : w.heap.size ≤ w1.heap.size := by have := HG1.out.size; simpa using this
  have hb : ∀ k, k < w.heap.size → k ≠ L.b → k ≠ L.mb → w1.heap[k]? = w.heap[k]? := fun k hk e1 e2 =>
    (HG1.out.block k (by simpa using hk) (fun e => e2 (by cases e; rfl))).trans (Below.heap_setCell w _ _ k e1)
  refine ⟨⟨_, rfl⟩, ⟨?_, ?_, ?_, ⟨rfl, .inl ⟨rfl, rfl⟩⟩, ⟨.map [], HO1.out, latest_nil⟩, ?_, ?_, h.ne1, h.ne2, h.ne3, (fun g hg => by cases hg), ?_, ⟨h.ok.n1, h.ok.n2, by simp [St.forgot], by simp [St.forgot], h.ok.wr, h.ok.l1, h.ok.l2⟩⟩, ?_⟩
  · exact (HG1.out.block L.b (by simpa using h.head.lt) (fun e => h.ne2 (Option.some.inj e))).trans (h.head.set1 _)
  · exact fun i hi => rangeAt_same (h.safe i hi) (hb _ (h.lt _ (.inr (.inl rfl))) h.ne1.symm h.ne3)
  · exact there_same h.there (hb _ (h.lt _ (.inr (.inl rfl))) h.ne1.symm h.ne3)
  · rintro k (hk | hk | hk | hk)
    · exact h.nK k (.inl hk)
    · exact h.nK k (.inr (.inl hk))
    · exact h.nK k (.inr (.inr (.inl hk)))
    · cases hk
  · rintro k (hk | hk | hk | hk)
    · exact Nat.lt_of_lt_of_le (h.lt k (.inl hk)) hs
    · exact Nat.lt_of_lt_of_le (h.lt k (.inr (.inl hk))) hs
    · exact Nat.lt_of_lt_of_le (h.lt k (.inr (.inr (.inl hk)))) hs
    · cases hk
  · exact fun k hk => Nat.lt_of_lt_of_le (h.kl k hk) hs
  · refine ⟨HG1.out.os, HG1.out.tape, HG1.out.output, hs, fun k hk => hb k (h.kl k hk) ?_ ?_⟩
    · rintro rfl; exact h.nK _ (.inl rfl) hk
    · rintro rfl; exact h.nK _ (.inr (.inr (.inl rfl))) hk
end Go.Proofs.YthhdkadjlddmkaaDoor

/- Contracts of 'octets', 'Read' and 'Image'. -/
namespace Go.Proofs.YthhdkadjlddmkaaDoor
open Go.RowKit
set_option linter.unusedVariables false

/-- What a sector has by the latest writes. -/
def St.see (S : St) (k : Nat) : Sec := match lastOf S.waits k with
  | none => S.safe k
  | some i => match S.waits[i]? with
    | some p => p.2
    | none => S.safe k
def secsN (f : Nat → Sec) (a m : Nat) : List Nat := (List.range m).flatMap fun i => (f (a + i)).l
theorem secsN_succ (f : Nat → Sec) (a m : Nat) : secsN f a (m + 1) = secsN f a m ++ (f (a + m)).l := by simp [secsN, List.range_succ]
theorem secsN_length (f : Nat → Sec) (a m : Nat) : (secsN f a m).length = 128 * m := by
  induction m with
  | zero => rfl
  | succ m ih => rw [secsN_succ, List.length_append, ih, Sec.len]; omega
theorem secsN_small (f : Nat → Sec) (a m : Nat) : ∀ z ∈ secsN f a m, z < 256 := by
  intro z hz
  simp only [secsN, List.mem_flatMap] at hz
  obtain ⟨i, _, hi⟩ := hz
  exact (f (a + i)).oct z hi
theorem lastOf_some {ps : List Wr} {k i : Nat} (h : lastOf ps k = some i) : ∃ p, ps[i]? = some p ∧ p.1 = k ∧ i < ps.length := by
  have h1 := List.find?_some h
  have h2 := List.mem_of_find?_eq_some h
  simp at h1 h2
  obtain ⟨s, hs⟩ := h1
  exact ⟨(k, s), hs, rfl, h2⟩

/-- A whole variable into the block that was made last. -/
theorem wpList_store_last {P : Program} {ops : Array Oper} {rest : List Oper} {op : Oper} {a : Act} {w : World} {Q : Exit → Act → World → Prop} (hgd : op.guard = none) (ty : TypeId) (x y : Operand) (ho : op.op = .store ty x y)
    (w0 : World) (c : Array Value) (hw : w = w0.alloc (.cells c ty)) (cells : Array Value) (hx : a.eval x = .pointer (some ⟨w0.heap.size, 0, none⟩)) (hy : a.eval y = .agg cells)
    (hi : (P.info? ty).map (·.size) = some cells.size) (hs : c.size = cells.size) (h1 : cells.all (·.oneCell') = true)
    (h : wpList P ops Q rest (a.put op.dst undef) (w0.alloc (.cells cells ty))) : wpList P ops Q (op :: rest) a w := by
  subst hw
  refine wpList_plain hgd fun _ hK => ?_
  unfold Oper.wp execOp
  simp only [ho, hx, hy, Instr.storeAt, Instr.sureAddr, Sem.run_bind, Sem.run_pure, Result.andThen_ok, run_storeVar_new w0 ty c cells hi hs h1]
  exact hK _ _ h

theorem Tryd.zeroSec (w : World) : (zeroValue 70).run Tryd.prog w = .ok (.agg (Array.replicate 128 (.int .u8 0))) w := (zero_of_info (n := 128) (by kernel_rfl)).1 w
theorem Tryd.sizeSec : (Tryd.prog.info? 70).map (·.size) = some 128 := by kernel_rfl
theorem Tryd.infoU8d : (Tryd.prog.info? 5).map (fun i => (i.zero, i.size, i.bytes)) = some (some (.int .u8 0), 1, 1) := by kernel_rfl
theorem Tryd.storeSec (w : World) (s : Sec) : (storeCells ⟨w.heap.size, 0, none⟩ s.cells).run Tryd.prog (w.alloc (.cells (Array.replicate 128 (.int .u8 0)) 70)) = .ok () (w.alloc (.cells s.cells.toArray 70)) :=
  run_storeCells_new (P := Tryd.prog) w 70 (Array.replicate 128 (.int .u8 0)) s.cells.toArray (by rw [List.size_toArray, Sec.cells_length]; exact Tryd.sizeSec) (by simp [Sec.cells_length]) (all_oneCell_toArray (Sec.cells_one _))
theorem Tryd.storeSec2 (w : World) (s s' : Sec) : (storeCells ⟨w.heap.size, 0, none⟩ s'.cells).run Tryd.prog (w.alloc (.cells s.cells.toArray 70)) = .ok () (w.alloc (.cells s'.cells.toArray 70)) :=
  run_storeCells_new (P := Tryd.prog) w 70 s.cells.toArray s'.cells.toArray (by rw [List.size_toArray, Sec.cells_length]; exact Tryd.sizeSec) (by simp [Sec.cells_length]) (all_oneCell_toArray (Sec.cells_one _))
theorem wf_nat (k : Nat) (h : k ≤ 9223372036854775807) : (Lit.int .i64 (k : Nat)).wf = true := by
  simp [Lit.wf, IntKind.min, IntKind.max, IntKind.signed, IntKind.bits]; omega
theorem look_none {K : Nat → Prop} {w : World} {L : Loc} {S : St} (h : IsDisk K w L S) (k : Nat) (hk : k < S.n) (hl : lastOf S.waits k = none) :
    ∃ c, (Instr.lookup 55 (.map (some L.mb)) (.int .i64 (k : Nat)) true).run Tryd.prog w = .ok (.tuple #[.int .i64 c, .bool false]) w := by
  obtain ⟨D, hmap, hlat⟩ := h.map
  have hn := h.ok.n2
  obtain ⟨v, ps, hrun, hv⟩ := hmap.look_ok (t := 55) (Maps.int_keyed Tryd.underlying3) Tryd.underlying55 (z := .int .i64 0) (Tryd.zeroValue3 _) (plainElem_int Tryd.underlying3 (by decide)) (Maps.keyOf_int_mk Tryd.underlying3 (wf_nat k (by omega)))
  obtain ⟨c, rfl, _, _⟩ := plainElem_int_inv Tryd.underlying3 hv
  rw [(hlat k (by omega)).1 hl] at hrun
  exact ⟨c, hrun⟩
theorem look_some {K : Nat → Prop} {w : World} {L : Loc} {S : St} (h : IsDisk K w L S) (k i : Nat) (hk : k < S.n) (hl : lastOf S.waits k = some i) :
    (Instr.lookup 55 (.map (some L.mb)) (.int .i64 (k : Nat)) true).run Tryd.prog w = .ok (.tuple #[.int .i64 (i : Nat), .bool true]) w := by
  obtain ⟨D, hmap, hlat⟩ := h.map
  have hn := h.ok.n2
  obtain ⟨v, ps, hrun, hv⟩ := hmap.look_ok (t := 55) (Maps.int_keyed Tryd.underlying3) Tryd.underlying55 (z := .int .i64 0) (Tryd.zeroValue3 _) (plainElem_int Tryd.underlying3 (by decide)) (Maps.keyOf_int_mk Tryd.underlying3 (wf_nat k (by omega)))
  obtain ⟨c, rfl, hc, _⟩ := plainElem_int_inv Tryd.underlying3 hv
  rw [((hlat k (by omega)).2 i hl).1] at hrun
  rw [((hlat k (by omega)).2 i hl).2] at hc
  simp only [Prod.mk.injEq, DataW.lit.injEq, Lit.int.injEq, true_and] at hc
  rw [hrun, hc.1]
theorem see_none {S : St} {k : Nat} (h : lastOf S.waits k = none) : S.see k = S.safe k := by simp [St.see, h]
theorem see_some {S : St} {k i : Nat} {p : Wr} (h : lastOf S.waits k = some i) (hp : S.waits[i]? = some p) : S.see k = p.2 := by simp [St.see, h, hp]
theorem Sec.size (s : Sec) : s.cells.toArray.size = 128 := by simp [Sec.cells_length]

/-- The write's own cells, in the row of all that wait. -/
theorem waits_at {w : World} {wv : Value} {ps : List Wr} (h : w.ownsRow 0 72 129 wv ps.length (flatW ps)) {i : Nat} {p : Wr} (hi : ps[i]? = some p) : ∃ g cap, wv = .slice (some ⟨g, 0, none⟩) ps.length cap ∧ ps.length ≤ cap ∧ w.rangeAt g (129 * i) (wrCells p) := by
  have hlt := (List.getElem?_eq_some_iff.1 hi).1
  rcases h.2 with ⟨_, h0⟩ | ⟨g, cap, cur, rfl, _, hg, hc, hm, hs, ht⟩
  · omega
  · refine ⟨g, cap, rfl, hc, fun j v hv => ?_⟩
    have hj : j < 129 := by have := (List.getElem?_eq_some_iff.1 hv).1; rwa [wrCells_length] at this
    rw [cell_of_row _ _ _ _ _ _ hg, ← hv, ← flatW_at ps i p hi j hj, ← ht, List.getElem?_take_of_lt (by omega)]
    simp
theorem wr_data {w : World} {g o : Nat} {p : Wr} (h : w.rangeAt g o (wrCells p)) : w.rangeAt g (o + 1) p.2.cells := fun j v hv => by
  have := h (j + 1) v (by simpa [wrCells] using hv)
  rw [show o + 1 + j = o + (j + 1) by omega]; exact this
theorem wr_at {w : World} {g o : Nat} {p : Wr} (h : w.rangeAt g o (wrCells p)) : w.cell? ⟨g, o, none⟩ = some (.int .i64 (p.1 : Nat)) := h 0 _ rfl

/-- A sector that was just laid, as octets. -/
theorem octs_sec (w : World) (s : Sec) (t : TypeId) : Octs (w.alloc (.cells s.cells.toArray t)) (.slice (some ⟨w.heap.size, 0, none⟩) 128 128) s.l := by
  refine ⟨s.oct, by rw [s.len]; decide, _, 128, by rw [s.len], by rw [s.len]; exact Nat.le_refl _, by decide, .inr ⟨_, rfl, .inr ⟨_, 0, rfl, by simp, ?_⟩⟩⟩
  intro j hj
  rw [cell_of_row _ _ _ _ _ _ (heap_alloc_last w _), Nat.zero_add]
  simp [Sec.cells, u8s, List.getElem?_eq_getElem hj]

set_option maxRecDepth 100000 in
set_option maxHeartbeats 1000000 in
theorem octets_v {K : Nat → Prop} {w : World} {L : Loc} {S : St} (h : IsDisk K w L S) (a m : Nat) (ham : a + m ≤ S.n) :
    Calls Tryd.prog 59 #[.pointer (some ⟨L.b, 0, none⟩), .int .i64 (a : Nat), .int .i64 (m : Nat)] w fun e w' => ∃ v, e = .returned v ∧ Octs w' v (secsN S.see a m) ∧ Below w.heap.size w w' := by
  obtain ⟨i0, hi, hz0, hz1, hz2⟩ := info_parts Tryd.infoU8d
  have H : Hid (IsDisk K w L S) := h
  have hn := h.ok.n2
  have hz54 := Tryd.zeroSec
  have hs54 := Tryd.storeSec
  have hl54 := Sec.cells_length
  clear h
  have e1 : IntKind.i64.wrap ((m : Int) * 128) = ((m * 128 : Nat) : Int) := by rw [IntKind.wrap_i64]; omega
  go_enter Tryd.func59, Tryd.ntmps59
  go_wp2_with (at_make; refine wpList_make_rows _ rfl _ _ 32 rfl 5 i0 _ 1 Tryd.underlying32 hi hz0 hz1 .i64 .i64 0 (m * 128) (by omega) rfl ?hc ?c1 ?c2 ?_)
  case hc => simp [Act.eval]
  case c1 => rw [hz2]; omega
  case c2 => unfold maxLen; omega
  have H0 : (w.alloc (.cells (madeCells (Value.int .u8 0).cells (m * 128 * 1)) 5)).ownsRow w.heap.size 5 1 (.slice (some ⟨w.heap.size, 0, none⟩) 0 (m * 128)) (128 * 0) (u8s (secsN S.see a 0)) :=
    ⟨by simp [secsN, u8s], .inr ⟨w.heap.size, m * 128, _, rfl, Nat.le_refl _, heap_alloc_last w _, by omega, by unfold maxLen; omega, by rw [size_madeCells], by simp [secsN, u8s]⟩⟩
  have HH0 : Hid ((w.alloc (.cells (madeCells (Value.int .u8 0).cells (m * 128 * 1)) 5)).ownsRow w.heap.size 5 1 (.slice (some ⟨w.heap.size, 0, none⟩) 0 (m * 128)) (128 * 0) (u8s (secsN S.see a 0))) := H0
  clear H0
  go_wp2_with fail
  go_loopw [7, 16] (fun v i wr => ∃ k : Nat, k ≤ m ∧ i = .int .i64 k ∧ wr.ownsRow w.heap.size 5 1 v (128 * k) (u8s (secsN S.see a k)) ∧ Below w.heap.size w wr) (fun _ i _ => m - (intOf i).toNat)
  case atStart =>
    exact ⟨0, by omega, rfl, by have := HH0.out; rw [Nat.mul_one] at this; exact this, (Below.refl _ w).alloc (Nat.le_refl _) _⟩
  case round =>
    obtain ⟨k, hk, rfl, hown, hnx⟩ := hrel
    have HOW : Hid (wr.ownsRow w.heap.size 5 1 u7 (128 * k) (u8s (secsN S.see a k))) := hown
    have HNX : Hid (Below w.heap.size w wr) := hnx
    have hD := H.out.belowed hnx
    have HD : Hid (IsDisk K wr L S) := hD
    have hsz : w.heap.size ≤ wr.heap.size := hnx.size
    by_cases hlt : k < m
    · have hq : a + k < S.n := by omega
      obtain ⟨c0, c1, c2, _, _⟩ := hD.head.cell
      have hbl : L.b < wr.heap.size := hD.head.lt
      have HS : Hid (wr.rangeAt L.sb (128 * (a + k)) (S.safe (a + k)).cells) := hD.safe (a + k) hq
      have e2 : IntKind.i64.wrap ((a : Int) + k) = ((a + k : Nat) : Int) := by rw [IntKind.wrap_i64]; omega
      -- what is appended at the end, whichever way
      have fin : ∀ (s : Sec), Hid (S.see (a + k) = s) → ∀ v' w', w'.ownsRow w.heap.size 5 1 v' (128 * k + s.l.length) (u8s (secsN S.see a k ++ s.l)) → (wr.alloc (.cells s.cells.toArray 70)).grownBy w' u7.ownBlock →
          Hid (w'.ownsRow w.heap.size 5 1 v' (128 * (k + 1)) (u8s (secsN S.see a (k + 1))) ∧ Below w.heap.size w w') := by
        intro s hs v' w' h1 h2
        refine ⟨?_, ?_⟩
        · rw [s.len] at h1
          rw [secsN_succ, hs.out, show 128 * (k + 1) = 128 * k + 128 by omega]; exact h1
        · exact (HNX.out.alloc hsz _).grown h2 (by simp; omega) (fun j hj => (HOW.out.lt j hj).1)
      clear hown hnx
      rcases hla : lastOf S.waits (a + k) with _ | i
      · obtain ⟨c, hlook⟩ := look_none (hD.alloc (.cells (S.safe (a + k)).cells.toArray 70)) (a + k) hq hla
        have HSE : Hid (S.see (a + k) = S.safe (a + k)) := see_none hla
        rw [Int.natCast_add] at hlook
        clear hD hla
        go_wp2_with (first
          | (refine wpList_load_mid rfl 70 _ rfl _ _ rfl (S.safe (a + k)).cells _ (by rw [Nat.mul_comm]; exact HS.out) Tryd.underlying70 rfl (by rw [Sec.cells_length]; exact Tryd.sizeSec) ?_)
          | (at_builtin; refine wpList_append_octs _ rfl _ _ 32 rfl w.heap.size 5 i0 Tryd.underlying32 hi hz0 hz1 hz2 _ (128 * k) (secsN S.see a k) rfl (HOW.out.alloc _) _ (S.safe (a + k)).l rfl (octs_sec _ _ _) ?d1 ?d2 ?_))
        case d1 => rw [Sec.len]; omega
        case d2 => simp; omega
        intro v' w' hown' hg'
        have HF := fin _ HSE v' w' hown' hg'
        clear hown' hg'
        go_wp2
        go_roundw
        case rel => exact ⟨k + 1, by omega, by simp, HF.out.1, HF.out.2⟩
        case measure => simp [intOf]; omega
      · obtain ⟨p, hp, hpk, hil⟩ := lastOf_some hla
        obtain ⟨g, cap, hwv, hcap, hrg⟩ := waits_at hD.waits hp
        have HRG : Hid (wr.rangeAt g (129 * i + 1) p.2.cells) := wr_data hrg
        have hlook := look_some (hD.alloc (.cells (S.safe (a + k)).cells.toArray 70)) (a + k) i hq hla
        have HSE : Hid (S.see (a + k) = p.2) := see_some hla hp
        have hs542 := Tryd.storeSec2
        have hmany := hD.ok.many
        rw [Int.natCast_add] at hlook
        rw [hwv] at c1
        generalize S.waits.length = q at c1 hcap hil hmany
        clear hD hla hwv hrg
        go_wp2_with (first
          | (refine wpList_load_mid rfl 70 _ rfl _ _ rfl (S.safe (a + k)).cells _ (by rw [Nat.mul_comm]; exact HS.out) Tryd.underlying70 rfl (by rw [Sec.cells_length]; exact Tryd.sizeSec) ?_)
          | (refine wpList_load_mid rfl 70 _ rfl _ _ rfl p.2.cells _ (World.rangeAt_alloc (by rw [Nat.mul_comm]; exact HRG.out) _) Tryd.underlying70 rfl (by rw [Sec.cells_length]; exact Tryd.sizeSec) ?_)
          | (at_builtin; refine wpList_append_octs _ rfl _ _ 32 rfl w.heap.size 5 i0 Tryd.underlying32 hi hz0 hz1 hz2 _ (128 * k) (secsN S.see a k) rfl (HOW.out.alloc _) _ p.2.l rfl (octs_sec _ _ _) ?d1 ?d2 ?_))
        case d1 => rw [Sec.len]; omega
        case d2 => simp; omega
        intro v' w' hown' hg'
        have HF := fin _ HSE v' w' hown' hg'
        clear hown' hg'
        go_wp2
        go_roundw
        case rel => exact ⟨k + 1, by omega, by simp, HF.out.1, HF.out.2⟩
        case measure => simp [intOf]; omega
    · obtain rfl : k = m := by omega
      clear hD hown hnx
      go_wp2
      go_ret
      exact ⟨_, rfl, Octs.owned HOW.out (secsN_small _ _ _), HNX.out⟩

theorem hasN_ok {n a m : Nat} (h : a + m ≤ n) : hasN n (a : Nat) (m : Nat) = true := decide_eq_true (by omega)
set_option maxRecDepth 100000 in
set_option maxHeartbeats 400000 in
theorem read_ok {K : Nat → Prop} {w : World} {L : Loc} {S : St} (h : IsDisk K w L S) (a m : Nat) (ham : a + m ≤ S.n) (hl : S.left ≠ 0) :
    Calls Tryd.prog 42 #[.pointer (some ⟨L.b, 0, none⟩), .int .i64 (a : Nat), .int .i64 (m : Nat)] w fun e w' => ∃ v, e = .returned (.tuple #[v, .int .i64 0]) ∧ Octs w' v (secsN S.see a m) ∧ IsDisk K w' L S.spent ∧ Kept K w w' := by
  have H : Hid (IsDisk K w L S) := h
  clear h
  go_enter Tryd.func42, Tryd.ntmps42
  go_wp2_with fail
  refine (has_v H.out _ _).mono ?_
  rintro e w1 ⟨rfl, rfl⟩
  rw [hasN_ok ham]
  go_wp2_with fail
  refine (spend_v H.out).mono ?_
  rintro e w2 ⟨rfl, h2, k2⟩
  rw [decide_eq_true hl]
  have H2 : Hid (IsDisk K w2 L S.spent) := h2
  have K2 : Hid (Kept K w1 w2) := k2
  clear h2 k2
  go_wp2_with fail
  refine (octets_v H2.out a m ham).mono ?_
  rintro e w3 ⟨v, rfl, ho, hb⟩
  have HO : Hid (Octs w3 v (secsN S.see a m)) := ho
  have HB : Hid (Below w2.heap.size w2 w3) := hb
  clear ho hb
  go_wp2
  go_ret2
  exact ⟨v, rfl, HO.out, H2.out.belowed HB.out, K2.out.trans (Kept.ofBelow HB.out H2.out.kl)⟩
set_option maxRecDepth 100000 in
set_option maxHeartbeats 400000 in
theorem read_off {K : Nat → Prop} {w : World} {L : Loc} {S : St} (h : IsDisk K w L S) (a m : Nat) (ham : a + m ≤ S.n) (hl : S.left = 0) :
    Calls Tryd.prog 42 #[.pointer (some ⟨L.b, 0, none⟩), .int .i64 (a : Nat), .int .i64 (m : Nat)] w fun e w' => e = .returned (.tuple #[.slice none 0 0, .int .i64 10]) ∧ IsDisk K w' L S.spent ∧ Kept K w w' := by
  have H : Hid (IsDisk K w L S) := h
  clear h
  go_enter Tryd.func42, Tryd.ntmps42
  go_wp2_with fail
  refine (has_v H.out _ _).mono ?_
  rintro e w1 ⟨rfl, rfl⟩
  rw [hasN_ok ham]
  go_wp2_with fail
  refine (spend_v H.out).mono ?_
  rintro e w2 ⟨rfl, h2, k2⟩
  rw [decide_eq_false (fun h => h hl)]
  have H2 : Hid (IsDisk K w2 L S.spent) := h2
  have K2 : Hid (Kept K w1 w2) := k2
  clear h2 k2
  go_wp2
  go_ret2
  exact ⟨rfl, H2.out, K2.out⟩
end Go.Proofs.YthhdkadjlddmkaaDoor

/- The contract of 'Flush'. -/
namespace Go.Proofs.YthhdkadjlddmkaaDoor
open Go.RowKit
set_option linter.unusedVariables false

def upd (f : Nat → Sec) (k : Nat) (s : Sec) : Nat → Sec := fun j => if j = k then s else f j
def applyW (f : Nat → Sec) (ps : List Wr) : Nat → Sec := ps.foldl (fun f p => upd f p.1 p.2) f
theorem applyW_snoc (f : Nat → Sec) (ps : List Wr) (p : Wr) : applyW f (ps ++ [p]) = upd (applyW f ps) p.1 p.2 := by simp [applyW]

/-- A sector's own cells are written. -/
theorem IsDisk.store {K : Nat → Prop} {w : World} {L : Loc} {S : St} (h : IsDisk K w L S) (k : Nat) (s : Sec) (hk : k < S.n) : IsDisk K (w.setCells L.sb (128 * k) s.cells) L { S with safe := upd S.safe k s } where
  head := (heap_setCells _ _ _ _ _ h.ne1).trans h.head
  safe i hi := by
    by_cases e : i = k
    · subst e
      show (w.setCells L.sb (128 * i) s.cells).rangeAt L.sb (128 * i) (upd S.safe i s i).cells
      rw [show upd S.safe i s i = s from if_pos rfl]
      exact World.rangeAt_setCells_same _ _ _ _ (fun j hj => by
        rw [Sec.cells_length] at hj
        have := h.there (128 * i + j) (by omega)
        rwa [Nat.zero_add] at this)
    · show (w.setCells L.sb (128 * k) s.cells).rangeAt L.sb (128 * i) (upd S.safe k s i).cells
      rw [show upd S.safe k s i = S.safe i from if_neg e]
      exact World.rangeAt_setCells_apart (h.safe i hi) _ _ _ (by rw [Sec.cells_length, Sec.cells_length]; omega)
  there := World.there_setCells h.there _ _ _
  waits := ownsRow_same h.waits fun g hg => heap_setCells _ _ _ _ _ (h.ne4 g hg).2.1
  map := by
    obtain ⟨D, h1, h2⟩ := h.map
    exact ⟨D, ownsMap_same h1 (heap_setCells _ _ _ _ _ h.ne3.symm), h2⟩
  nK := h.nK
  lt k hk := by rw [size_setCells]; exact h.lt k hk
  ne1 := h.ne1
  ne2 := h.ne2
  ne3 := h.ne3
  ne4 := h.ne4
  kl k hk := by rw [size_setCells]; exact h.kl k hk
  ok := ⟨h.ok.n1, h.ok.n2, h.ok.at', h.ok.many, h.ok.wr, h.ok.l1, h.ok.l2⟩

theorem Tryd.sizeWr : (Tryd.prog.info? 72).map (·.size) = some 129 := by kernel_rfl
theorem Tryd.zeroWr (w : World) : (zeroValue 72).run Tryd.prog w = .ok (.agg (#[.int .i64 0] ++ Array.replicate 128 (.int .u8 0))) w := (zero_of_info (n := 129) (by kernel_rfl)).1 w
theorem Tryd.storeWr (w : World) (p : Wr) (c : Array Value) (hc : c.size = 129) : (storeCells ⟨w.heap.size, 0, none⟩ (wrCells p)).run Tryd.prog (w.alloc (.cells c 72)) = .ok () (w.alloc (.cells (wrCells p).toArray 72)) :=
  run_storeCells_new (P := Tryd.prog) w 72 c (wrCells p).toArray (by rw [List.size_toArray, wrCells_length]; exact Tryd.sizeWr) (by simp [wrCells_length, hc]) (all_oneCell_toArray (wrCells_one _))
theorem Tryd.storeWr0 (w : World) (p : Wr) : (storeCells ⟨w.heap.size, 0, none⟩ (wrCells p)).run Tryd.prog (w.alloc (.cells (#[.int .i64 0] ++ Array.replicate 128 (.int .u8 0)) 72)) = .ok () (w.alloc (.cells (wrCells p).toArray 72)) :=
  Tryd.storeWr w p _ (by simp)
/-- A write that was just laid into a variable. -/
theorem wr_new (w : World) (p : Wr) (t : TypeId) : (w.alloc (.cells (wrCells p).toArray t)).rangeAt w.heap.size 0 (wrCells p) := fun j v hv => by
  rw [cell_of_row _ _ _ _ _ _ (heap_alloc_last w _), Nat.zero_add]
  simpa using hv

set_option maxRecDepth 100000 in
set_option maxHeartbeats 1000000 in
theorem flush_off {K : Nat → Prop} {w : World} {L : Loc} {S : St} (h : IsDisk K w L S) (hl : S.left = 0) :
    Calls Tryd.prog 56 #[.pointer (some ⟨L.b, 0, none⟩)] w fun e w' => e = .returned (.int .i64 10) ∧ IsDisk K w' L S.spent ∧ Kept K w w' := by
  have H : Hid (IsDisk K w L S) := h
  clear h
  go_enter Tryd.func56, Tryd.ntmps56
  go_wp2_with fail
  refine (spend_v H.out).mono ?_
  rintro e w2 ⟨rfl, h2, k2⟩
  rw [decide_eq_false (fun h => h hl)]
  have H2 : Hid (IsDisk K w2 L S.spent) := h2
  have K2 : Hid (Kept K w w2) := k2
  clear h2 k2
  go_wp2
  go_ret
  exact ⟨rfl, H2.out, K2.out⟩

def St.flushed (S : St) : St := { S with safe := applyW S.safe S.waits, waits := [] }
set_option maxRecDepth 100000 in
set_option maxHeartbeats 1000000 in
theorem flush_ok {K : Nat → Prop} {w : World} {L : Loc} {S : St} (h : IsDisk K w L S) (hl : S.left ≠ 0) :
    Calls Tryd.prog 56 #[.pointer (some ⟨L.b, 0, none⟩)] w fun e w' => e = .returned (.int .i64 0) ∧ IsDisk K w' { L with wv := .slice none 0 0 } S.spent.flushed ∧ Kept K w w' := by
  have H : Hid (IsDisk K w L S) := h
  clear h
  have hz64 := Tryd.zeroWr
  have hs64 := Tryd.storeWr0
  have hl64 := wrCells_length
  go_enter Tryd.func56, Tryd.ntmps56
  go_wp2_with fail
  refine (spend_v H.out).mono ?_
  rintro e w2 ⟨rfl, h2, k2⟩
  rw [decide_eq_true hl]
  obtain ⟨a, cap, hwv⟩ := wv_shape h2.waits
  have c1 := h2.head.cell.2.1
  rw [hwv] at c1
  obtain ⟨T, hT⟩ : ∃ T, S.spent = T := ⟨_, rfl⟩
  rw [hT] at h2 hwv c1
  have HT : Hid (S.spent = T) := hT
  have H2 : Hid (IsDisk K w2 L T) := h2
  have K2 : Hid (Kept K w w2) := k2
  have HW : Hid (L.wv = .slice a T.waits.length cap) := hwv
  have hmany := h2.ok.many
  obtain ⟨q, hq⟩ : ∃ q, q = T.waits.length := ⟨_, rfl⟩
  rw [← hq] at c1 hmany
  have HQ : Hid (q = T.waits.length) := hq
  clear h2 k2 hwv hT hq
  go_wp2_with fail
  go_loopw [13] (fun i wr => ∃ k : Nat, k ≤ q ∧ i = .int .i64 k ∧ IsDisk K wr L { T with safe := applyW T.safe (T.waits.take k) } ∧ Kept K w wr) (fun i _ => q - (intOf i).toNat)
  case atStart =>
    exact ⟨0, by omega, rfl, by simpa [applyW] using H2.out, K2.out⟩
  case round =>
    obtain ⟨k, hk, rfl, hD, hKp⟩ := hrel
    have HD : Hid (IsDisk K wr L { T with safe := applyW T.safe (T.waits.take k) }) := hD
    have HKP : Hid (Kept K w wr) := hKp
    by_cases hlt : k < q
    · have hkq : k < T.waits.length := by rw [← HQ.out]; exact hlt
      obtain ⟨p, hp⟩ : ∃ p, T.waits[k]? = some p := ⟨_, List.getElem?_eq_getElem hkq⟩
      obtain ⟨g, cap', hwv', hcap, hrg⟩ := waits_at hD.waits hp
      obtain ⟨rfl, rfl⟩ : a = some ⟨g, 0, none⟩ ∧ cap = cap' := by
        have := HW.out.symm.trans hwv'
        simp only [Value.slice.injEq] at this
        exact ⟨this.1, this.2.2⟩
      have HRG : Hid (wr.rangeAt g (129 * k) (wrCells p)) := hrg
      have hpn : p.1 < T.n := hD.ok.at' p (List.mem_of_getElem? hp)
      have hn := hD.ok.n2
      have c0 : wr.cell? ⟨L.b, 0, none⟩ = some (.slice (some ⟨L.sb, 0, none⟩) T.n T.n) := hD.head.cell.1
      have hbl := hD.head.lt
      -- what the drawn region reads
      have hnew := wr_new wr p 72
      obtain ⟨x, s⟩ := p
      have hS0 : (fun w' : World => w'.cell? ⟨L.b, 0, none⟩ = some (.slice (some ⟨L.sb, 0, none⟩) T.n T.n) ∧ w'.cell? ⟨wr.heap.size, 0, none⟩ = some (.int .i64 (x : Nat)) ∧ w'.rangeAt wr.heap.size 1 s.cells ∧ w'.there L.sb (x * 128) 128) (wr.alloc (.cells (wrCells (x, s)).toArray 72)) := by
        refine ⟨(hD.alloc _).head.cell.1, wr_at hnew, by simpa using wr_data hnew, fun j hj => ?_⟩
        have := (hD.alloc (.cells (wrCells (x, s)).toArray 72)).there (x * 128 + j) (by simp only at hpn ⊢; omega)
        rwa [Nat.zero_add] at this
      have hD1 := ((hD.alloc (.cells (wrCells (x, s)).toArray 72)).drew.store x s hpn)
      have hS1 : (fun w' : World => w'.cell? ⟨L.b, 0, none⟩ = some (.slice (some ⟨L.sb, 0, none⟩) T.n T.n) ∧ w'.cell? ⟨wr.heap.size, 0, none⟩ = some (.int .i64 (x : Nat)) ∧ w'.rangeAt wr.heap.size 1 s.cells ∧ w'.there L.sb (x * 128) 128) ((wr.alloc (.cells (wrCells (x, s)).toArray 72)).drew.setCells L.sb (x * 128) s.cells) := by
        have hsb : L.sb ≠ wr.heap.size := Nat.ne_of_lt (hD.lt _ (.inr (.inl rfl)))
        refine ⟨?_, ?_, World.rangeAt_setCells_apart (w := (wr.alloc (.cells (wrCells (x, s)).toArray 72)).drew) hS0.2.2.1 _ _ _ (.inl hsb.symm), World.there_setCells (w := (wr.alloc (.cells (wrCells (x, s)).toArray 72)).drew) hS0.2.2.2 _ _ _⟩
        · rw [World.cell?_setCells_out _ _ _ _ _ (fun e => absurd e hD.ne1)]; exact hS0.1
        · rw [World.cell?_setCells_out _ _ _ _ _ (fun e => absurd e.symm hsb)]; exact hS0.2.1
      have HS0 : Hid _ := hS0
      have HS1 : Hid _ := hS1
      have HF : Hid (IsDisk K ((wr.alloc (.cells (wrCells (x, s)).toArray 72)).drew.setCells L.sb (x * 128) s.cells) L { T with safe := applyW T.safe (T.waits.take (k + 1)) } ∧ Kept K w ((wr.alloc (.cells (wrCells (x, s)).toArray 72)).drew.setCells L.sb (x * 128) s.cells)) := by
        refine ⟨?_, (hKp.alloc hD.kl _).drew.setCells (hD.nK _ (.inr (.inl rfl))) _ _⟩
        rw [List.take_add_one, hp, Option.toList_some, applyW_snoc, Nat.mul_comm x 128]
        exact hD1
      have i1 : (0 : Int) ≤ (x : Int) := by omega
      have i2 : (x : Int) < (T.n : Int) := by simp only at hpn; omega
      have u54 := Tryd.underlying70
      have z54 : (Tryd.prog.info? 70).map (·.size) = some s.cells.length := by rw [Sec.cells_length]; exact Tryd.sizeSec
      have l54 : s.cells.length = 128 := Sec.cells_length s
      have o54 := s.cells_one
      clear hS0 hS1 hD1 hD hKp hwv' hrg hp hnew
      go_wp2_with (refine wpList_load_mid rfl 72 _ rfl _ _ rfl (wrCells (x, s)) _ (by rw [Nat.mul_comm]; exact HRG.out) Tryd.underlying72 rfl (by rw [wrCells_length]; exact Tryd.sizeWr) ?_)
      go_region_held3 (fun w' => w'.cell? ⟨L.b, 0, none⟩ = some (.slice (some ⟨L.sb, 0, none⟩) T.n T.n) ∧ w'.cell? ⟨wr.heap.size, 0, none⟩ = some (.int .i64 (x : Nat)) ∧ w'.rangeAt wr.heap.size 1 s.cells ∧ w'.there L.sb (x * 128) 128) (first | exact HS0.out | exact HS1.out) (fail)
      go_wp2
      go_roundw
      case rel => exact ⟨k + 1, by omega, by simp, HF.out.1, HF.out.2⟩
      case measure => simp [intOf]; omega
    · obtain rfl : k = q := by omega
      clear hD hKp
      go_wp2_with fail
      refine (forget_v HD.out).mono ?_
      rintro e w4 ⟨⟨v, rfl⟩, h4, k4⟩
      have H4 : Hid (IsDisk K w4 { L with wv := .slice none 0 0 } S.spent.flushed) := by
        rw [HT.out]
        rw [HQ.out, List.take_length] at h4
        exact h4
      have K4 : Hid (Kept K w w4) := HKP.out.trans k4
      clear h4 k4
      go_wp2
      go_ret
      exact ⟨rfl, H4.out, K4.out⟩
end Go.Proofs.YthhdkadjlddmkaaDoor

/- Slices of ints, and the contract of 'marks'. -/
namespace Go.Proofs.YthhdkadjlddmkaaDoor
open Go.RowKit
set_option linter.unusedVariables false

/-- The value is a slice whose elements are these ints. -/
def Ints (w : World) (v : Value) (zs : List Int) : Prop :=
  zs.length ≤ maxLen ∧ ∃ a cap, v = .slice a zs.length cap ∧ (zs = [] ∨ ∃ b off, a = some ⟨b, off, none⟩ ∧ b < w.heap.size ∧ ∀ j, j < zs.length → w.cell? ⟨b, off + j, none⟩ = some (.int .i64 (zs[j]?.getD 0)))
theorem Ints.nil (w : World) : Ints w (.slice none 0 0) [] := ⟨by simp, none, 0, rfl, .inl rfl⟩
theorem Ints.kept {w w' : World} {v : Value} {zs : List Int} (h : Ints w v zs) (hb : Below w.heap.size w w') : Ints w' v zs := by
  obtain ⟨h1, a, cap, rfl, h2⟩ := h
  refine ⟨h1, a, cap, rfl, ?_⟩
  rcases h2 with h2 | ⟨b, off, rfl, hlt, hc⟩
  · exact .inl h2
  · exact .inr ⟨b, off, rfl, Nat.lt_of_lt_of_le hlt hb.size, fun j hj => (hb.cell (p := ⟨b, off + j, none⟩) hlt).trans (hc j hj)⟩

def markA (zs : List Int) (n : Nat) : Array Value := ((List.range n).map fun (i : Nat) => Value.bool (decide ((i : Int) ∈ zs))).toArray
theorem markA_size (zs : List Int) (n : Nat) : (markA zs n).size = n := by simp [markA]
theorem markA_get (zs : List Int) (n i : Nat) (h : i < n) : (markA zs n)[i]? = some (.bool (decide ((i : Int) ∈ zs))) := by simp [markA, h]
theorem markA_nil (n : Nat) : markA [] n = madeCells #[.bool false] n := by
  apply Array.ext
  · simp [markA, size_madeCells]
  · intro i h1 h2
    simp [markA, madeCells, Nat.mod_one]
theorem markA_in (ys : List Int) (n z : Nat) (h : z < n) : (markA ys n).setIfInBounds z (.bool true) = markA (ys ++ [(z : Int)]) n := by
  apply Array.ext
  · simp [markA]
  · intro i h1 h2
    simp only [Array.size_setIfInBounds, markA_size] at h1
    rw [Array.getElem_setIfInBounds (by simpa [markA_size] using h1)]
    simp only [markA, List.getElem_toArray, List.getElem_map, List.getElem_range, List.mem_append, List.mem_singleton]
    by_cases e : z = i
    · subst e; simp
    · have : ¬ (i : Int) = (z : Int) := by omega
      simp [e, this]
theorem markA_out (ys : List Int) (n : Nat) (z : Int) (h : z < 0 ∨ (n : Int) ≤ z) : markA (ys ++ [z]) n = markA ys n := by
  apply Array.ext
  · simp [markA]
  · intro i h1 h2
    rw [markA_size] at h1
    have : ¬ (i : Int) = z := by omega
    simp [markA, this]

theorem Tryd.infoBool : (Tryd.prog.info? 4).map (fun i => (i.zero, i.size, i.bytes)) = some (some (.bool false), 1, 1) := by kernel_rfl

set_option maxRecDepth 100000 in
set_option maxHeartbeats 1000000 in
theorem marks_v (w : World) (v : Value) (zs : List Int) (n : Nat) (hv : Ints w v zs) (hn : n ≤ 1000000000) :
    Calls Tryd.prog 28 #[v, .int .i64 (n : Nat)] w fun e w' => e = .returned (.slice (some ⟨w.heap.size, 0, none⟩) n n) ∧ w' = w.alloc (.cells (markA zs n) 4) := by
  obtain ⟨i0, hi, hz0, hz1, hz2⟩ := info_parts Tryd.infoBool
  obtain ⟨hlen, a, cap, rfl, hcells⟩ := hv
  have HC : Hid (zs = [] ∨ ∃ b off, a = some ⟨b, off, none⟩ ∧ b < w.heap.size ∧ ∀ j, j < zs.length → w.cell? ⟨b, off + j, none⟩ = some (.int .i64 (zs[j]?.getD 0))) := hcells
  obtain ⟨m, hm⟩ : ∃ m, m = zs.length := ⟨_, rfl⟩
  have HM : Hid (m = zs.length) := hm
  rw [← hm] at hlen
  have hm63 : m ≤ 9223372036854775807 := by unfold maxLen at hlen; omega
  rw [← hm]
  clear hcells hm hlen
  go_enter Tryd.func28, Tryd.ntmps28
  go_wp2_with (at_make; refine wpList_make_exact _ rfl _ _ 67 rfl 4 i0 _ Tryd.underlying67 hi hz0 hz1 .i64 .i64 n rfl rfl ?c1 ?c2 ?_)
  case c1 => rw [hz2]; omega
  case c2 => unfold maxLen; omega
  go_wp2_with fail
  go_loopw [12] (fun i wr => ∃ k : Nat, k ≤ m ∧ i = .int .i64 k ∧ wr = w.alloc (.cells (markA (zs.take k) n) 4)) (fun i _ => m - (intOf i).toNat)
  case atStart => exact ⟨0, by omega, rfl, by rw [List.take_zero, markA_nil]⟩
  case round =>
    obtain ⟨k, hk, rfl, rfl⟩ := hrel
    by_cases hlt : k < m
    · have hkz : k < zs.length := by rw [← HM.out]; exact hlt
      rcases HC.out with h0 | ⟨b, off, rfl, hbl, hc⟩
      · rw [h0] at hkz; simp at hkz
      · obtain ⟨z, hz⟩ : ∃ z, zs[k]? = some z := ⟨_, List.getElem?_eq_getElem hkz⟩
        have hck : (w.alloc (.cells (markA (zs.take k) n) 4)).cell? ⟨b, off + k, none⟩ = some (.int .i64 z) := by
          rw [World.cell?_alloc_lt _ _ _ hbl, hc k hkz, hz]; rfl
        have HT : Hid (zs.take (k + 1) = zs.take k ++ [z]) := by rw [List.take_add_one, hz]; rfl
        clear hc hz
        by_cases hz1 : z < 0
        · have HE : Hid (markA (zs.take (k + 1)) n = markA (zs.take k) n) := by rw [HT.out]; exact markA_out _ _ _ (.inl hz1)
          go_wp2
          go_roundw
          case rel => exact ⟨k + 1, by omega, by simp, by rw [HE.out]⟩
          case measure => simp [intOf]; omega
        · by_cases hz2 : (n : Int) ≤ z
          · have HE : Hid (markA (zs.take (k + 1)) n = markA (zs.take k) n) := by rw [HT.out]; exact markA_out _ _ _ (.inr hz2)
            go_wp2
            go_roundw
            case rel => exact ⟨k + 1, by omega, by simp, by rw [HE.out]⟩
            case measure => simp [intOf]; omega
          · obtain ⟨y, rfl⟩ := Int.eq_ofNat_of_zero_le (show 0 ≤ z by omega)
            have hy : y < n := by omega
            have HE : Hid ((markA (zs.take k) n).setIfInBounds y (.bool true) = markA (zs.take (k + 1)) n) := by rw [HT.out]; exact markA_in _ _ _ hy
            have hget := markA_get (zs.take k) n y hy
            have hsize := markA_size (zs.take k) n
            clear hz1 hz2
            go_wp2
            go_roundw
            case rel => exact ⟨k + 1, by omega, by simp, by rw [HE.out]⟩
            case measure => simp [intOf]; omega
    · obtain rfl : k = m := by omega
      go_wp2
      go_ret
      exact ⟨rfl, by rw [HM.out, List.take_length]⟩
end Go.Proofs.YthhdkadjlddmkaaDoor

/- The contract of 'Crash'. -/
namespace Go.Proofs.YthhdkadjlddmkaaDoor
open Go.RowKit
set_option linter.unusedVariables false

def tear (old new : Sec) (c : Nat) : Sec := ⟨new.l.take c ++ old.l.drop c, by
  have h1 := old.len
  have h2 := new.len
  simp; omega, fun x hx => by
  rcases List.mem_append.1 hx with h | h
  · exact new.oct x (List.mem_of_mem_take h)
  · exact old.oct x (List.mem_of_mem_drop h)⟩
def crashStep (zs : List Int) (torn cut : Int) (f : Nat → Sec) (i : Nat) (p : Wr) : Nat → Sec :=
  if (i : Int) ∈ zs then upd f p.1 p.2 else if (i : Int) = torn ∧ 0 < cut ∧ cut < 128 then upd f p.1 (tear (f p.1) p.2 cut.toNat) else f
def crashTo (zs : List Int) (torn cut : Int) (f : Nat → Sec) (ps : List Wr) : Nat → (Nat → Sec)
  | 0 => f
  | k + 1 => match ps[k]? with
    | some p => crashStep zs torn cut (crashTo zs torn cut f ps k) k p
    | none => crashTo zs torn cut f ps k
def keptTo (zs : List Int) : Nat → Nat
  | 0 => 0
  | k + 1 => keptTo zs k + (if (k : Int) ∈ zs then 1 else 0)
theorem keptTo_le (zs : List Int) (k : Nat) : keptTo zs k ≤ k := by
  induction k with
  | zero => exact Nat.le_refl _
  | succ k ih => simp only [keptTo]; split <;> omega
def St.crashed (S : St) (zs : List Int) (torn cut : Int) : St := { S with safe := crashTo zs torn cut S.safe S.waits S.waits.length, waits := [], left := -1 }

/-- 'copy' into the midst of a block, as one step of a region that draws its order. -/
theorem step_copy_mid {P : Program} {ops : Array Oper} {o : Oper} {a : Act} {w : World} {K : Act → World → Prop} {Q : Exit → Act → World → Prop} {E : Prop} (hgd : o.guard = none) (d s : Operand) (dT sT : TypeId)
    (ho : o.op = .call { callee := .builtin .copy, args := #[d, s], argTypes := #[dT, sT] }) (elem : TypeId) (hu : P.underlying dT = some (.slice elem)) (hsz : (P.info? elem).map (·.size) = some 1)
    (g off dLen dCap : Nat) (ad : Addr) (sLen sCap : Nat) (hd : a.eval d = .slice (some ⟨g, off, none⟩) dLen dCap) (hs : a.eval s = .slice (some ad) sLen sCap)
    (cs : List Value) (hn : cs.length = Nat.min sLen dLen) (hsrc : ∀ j v, cs[j]? = some v → w.cell? (ad.add j) = some v) (ht : w.there g off cs.length) (h1 : ∀ v ∈ cs, v.oneCell' = true)
    (h : K (a.put o.dst (goInt cs.length)) (w.setCells g off cs)) : if Region.wanted o (yielded ops a.tmps) = true then Oper.wp P o a w K Q else E := by
  have hw : Region.wanted o (yielded ops a.tmps) = true := by simp [Region.wanted, hgd]
  rw [if_pos hw]
  have hrun := run_copy_cells (P := P) w dT sT o.type elem g off dLen dCap ad sLen sCap cs hu hsz hn hsrc (fun j hj => (ht j hj).1) (fun j hj => (ht j hj).2) h1
  unfold Oper.wp
  simp [execOp, ho, resolve, invoke, builtin, hd, hs, hrun, Result.andThen]
  exact h

theorem Tryd.sizeU8 : (Tryd.prog.info? 5).map (·.size) = some 1 := by kernel_rfl
/-- The first octets of a sector are written. -/
theorem setCells_tear {w : World} {b o : Nat} (old new : Sec) (c : Nat) (hc : c ≤ 128) (h : w.rangeAt b o old.cells) (ht : w.there b o 128) : (w.setCells b o (new.cells.take c)).rangeAt b o (tear old new c).cells := by
  have hlen : (new.cells.take c).length = c := by rw [List.length_take, Sec.cells_length]; omega
  intro j v hv
  have e : (tear old new c).cells = new.cells.take c ++ old.cells.drop c := by simp [tear, Sec.cells, u8s, List.map_take, List.map_drop]
  rw [e] at hv
  by_cases hj : j < c
  · rw [List.getElem?_append_left (by omega)] at hv
    exact World.rangeAt_setCells_same w b o _ (fun i hi => ht i (by omega)) j v hv
  · rw [List.getElem?_append_right (by omega), hlen, List.getElem?_drop] at hv
    rw [World.cell?_setCells_out _ _ _ _ _ (fun _ _ => by right; simp only [hlen]; omega)]
    exact h j v (by rw [← hv]; congr 1; omega)
theorem IsDisk.tears {K : Nat → Prop} {w : World} {L : Loc} {S : St} (h : IsDisk K w L S) (k : Nat) (s : Sec) (c : Nat) (hc : c ≤ 128) (hk : k < S.n) : IsDisk K (w.setCells L.sb (128 * k) (s.cells.take c)) L { S with safe := upd S.safe k (tear (S.safe k) s c) } where
  head := (heap_setCells _ _ _ _ _ h.ne1).trans h.head
  safe i hi := by
    have hlen : (s.cells.take c).length = c := by rw [List.length_take, Sec.cells_length]; omega
    by_cases e : i = k
    · subst e
      show (w.setCells L.sb (128 * i) (s.cells.take c)).rangeAt L.sb (128 * i) (upd S.safe i (tear (S.safe i) s c) i).cells
      rw [show upd S.safe i (tear (S.safe i) s c) i = tear (S.safe i) s c from if_pos rfl]
      exact setCells_tear _ _ _ hc (h.safe i hi) (fun j hj => by
        have := h.there (128 * i + j) (by omega)
        rwa [Nat.zero_add] at this)
    · show (w.setCells L.sb (128 * k) (s.cells.take c)).rangeAt L.sb (128 * i) (upd S.safe k (tear (S.safe k) s c) i).cells
      rw [show upd S.safe k (tear (S.safe k) s c) i = S.safe i from if_neg e]
      exact World.rangeAt_setCells_apart (h.safe i hi) _ _ _ (by rw [Sec.cells_length, hlen]; omega)
  there := World.there_setCells h.there _ _ _
  waits := ownsRow_same h.waits fun g hg => heap_setCells _ _ _ _ _ (h.ne4 g hg).2.1
  map := by
    obtain ⟨D, h1, h2⟩ := h.map
    exact ⟨D, ownsMap_same h1 (heap_setCells _ _ _ _ _ h.ne3.symm), h2⟩
  nK := h.nK
  lt k hk := by rw [size_setCells]; exact h.lt k hk
  ne1 := h.ne1
  ne2 := h.ne2
  ne3 := h.ne3
  ne4 := h.ne4
  kl k hk := by rw [size_setCells]; exact h.kl k hk
  ok := ⟨h.ok.n1, h.ok.n2, h.ok.at', h.ok.many, h.ok.wr, h.ok.l1, h.ok.l2⟩

/-- What a drawn region reads while a write is laid into its sector: before and behind the store. -/
theorem box_reads {K : Nat → Prop} {wr : World} {L : Loc} {S : St} (hD : IsDisk K wr L S) (x : Nat) (s : Sec) (hx : x < S.n) : (wr.alloc (.cells (wrCells (x, s)).toArray 72)).cell? ⟨L.b, 0, none⟩ = some (.slice (some ⟨L.sb, 0, none⟩) S.n S.n) ∧ (wr.alloc (.cells (wrCells (x, s)).toArray 72)).cell? ⟨wr.heap.size, 0, none⟩ = some (.int .i64 (x : Nat)) ∧ (wr.alloc (.cells (wrCells (x, s)).toArray 72)).rangeAt wr.heap.size 1 s.cells ∧ (wr.alloc (.cells (wrCells (x, s)).toArray 72)).there L.sb (x * 128) 128 := by
  have hnew := wr_new wr (x, s) 72
  refine ⟨(hD.alloc _).head.cell.1, wr_at hnew, by simpa using wr_data hnew, fun j hj => ?_⟩
  have := (hD.alloc (.cells (wrCells (x, s)).toArray 72)).there (x * 128 + j) (by omega)
  rwa [Nat.zero_add] at this
theorem box_reads2 {K : Nat → Prop} {wr : World} {L : Loc} {S : St} (hD : IsDisk K wr L S) (x : Nat) (s : Sec) (hx : x < S.n) (cs : List Value) : ((wr.alloc (.cells (wrCells (x, s)).toArray 72)).drew.setCells L.sb (x * 128) cs).cell? ⟨L.b, 0, none⟩ = some (.slice (some ⟨L.sb, 0, none⟩) S.n S.n) ∧ ((wr.alloc (.cells (wrCells (x, s)).toArray 72)).drew.setCells L.sb (x * 128) cs).cell? ⟨wr.heap.size, 0, none⟩ = some (.int .i64 (x : Nat)) ∧ ((wr.alloc (.cells (wrCells (x, s)).toArray 72)).drew.setCells L.sb (x * 128) cs).rangeAt wr.heap.size 1 s.cells ∧ ((wr.alloc (.cells (wrCells (x, s)).toArray 72)).drew.setCells L.sb (x * 128) cs).there L.sb (x * 128) 128 := by
  have hS0 := box_reads hD x s hx
  have hsb : L.sb ≠ wr.heap.size := Nat.ne_of_lt (hD.lt _ (.inr (.inl rfl)))
  refine ⟨?_, ?_, World.rangeAt_setCells_apart (w := (wr.alloc (.cells (wrCells (x, s)).toArray 72)).drew) hS0.2.2.1 _ _ _ (.inl hsb.symm), World.there_setCells (w := (wr.alloc (.cells (wrCells (x, s)).toArray 72)).drew) hS0.2.2.2 _ _ _⟩
  · rw [World.cell?_setCells_out _ _ _ _ _ (fun e => absurd e hD.ne1)]; exact hS0.1
  · rw [World.cell?_setCells_out _ _ _ _ _ (fun e => absurd e.symm hsb)]; exact hS0.2.1

theorem crashTo_kept {zs : List Int} {torn cut : Int} {f : Nat → Sec} {ps : List Wr} {k : Nat} {p : Wr} (hp : ps[k]? = some p) (h : (k : Int) ∈ zs) : crashTo zs torn cut f ps (k + 1) = upd (crashTo zs torn cut f ps k) p.1 p.2 := by
  simp [crashTo, hp, crashStep, h]
theorem crashTo_torn {zs : List Int} {torn cut : Int} {f : Nat → Sec} {ps : List Wr} {k : Nat} {p : Wr} (hp : ps[k]? = some p) (h : ¬ (k : Int) ∈ zs) (h2 : (k : Int) = torn ∧ 0 < cut ∧ cut < 128) : crashTo zs torn cut f ps (k + 1) = upd (crashTo zs torn cut f ps k) p.1 (tear (crashTo zs torn cut f ps k p.1) p.2 cut.toNat) := by
  simp only [crashTo, hp, crashStep, if_neg h, if_pos h2]
theorem crashTo_lost {zs : List Int} {torn cut : Int} {f : Nat → Sec} {ps : List Wr} {k : Nat} {p : Wr} (hp : ps[k]? = some p) (h : ¬ (k : Int) ∈ zs) (h2 : ¬ ((k : Int) = torn ∧ 0 < cut ∧ cut < 128)) : crashTo zs torn cut f ps (k + 1) = crashTo zs torn cut f ps k := by
  simp only [crashTo, hp, crashStep, if_neg h, if_neg h2]

set_option maxRecDepth 100000 in
set_option maxHeartbeats 1000000 in
theorem crash_v {K : Nat → Prop} {w : World} {L : Loc} {S : St} (h : IsDisk K w L S) (kv : Value) (zs : List Int) (hkv : Ints w kv zs) (torn cut : Int) :
    Calls Tryd.prog 15 #[.pointer (some ⟨L.b, 0, none⟩), .agg #[kv, .int .i64 torn, .int .i64 cut]] w fun e w' => e = .returned (.int .i64 (keptTo zs S.waits.length : Nat)) ∧ IsDisk K w' { L with wv := .slice none 0 0 } (S.crashed zs torn cut) ∧ Kept K w w' := by
  have H : Hid (IsDisk K w L S) := h
  have HKV : Hid (Ints w kv zs) := hkv
  obtain ⟨a, cap, hwv⟩ := wv_shape h.waits
  obtain ⟨a9, cap9, hkv9⟩ : ∃ a9 cap9, kv = .slice a9 zs.length cap9 := by obtain ⟨_, a9, cap9, e, _⟩ := hkv; exact ⟨a9, cap9, e⟩
  have hmany := h.ok.many
  have HW : Hid (L.wv = .slice a S.waits.length cap) := hwv
  obtain ⟨q, hq⟩ : ∃ q, S.waits.length = q := ⟨_, rfl⟩
  have HQ : Hid (S.waits.length = q) := hq
  rw [hq] at hmany
  have c1 : (w.alloc (.cells #[kv, .int .i64 torn, .int .i64 cut] 35)).cell? ⟨L.b, 1, none⟩ = some (.slice a q cap) := by rw [← hq, ← hwv]; exact (h.alloc _).head.cell.2.1
  have c9 : (w.alloc (.cells #[kv, .int .i64 torn, .int .i64 cut] 35)).cell? ⟨w.heap.size, 0, none⟩ = some kv := by rw [cell_of_row _ _ _ _ _ _ (heap_alloc_last w _)]; rfl
  subst hkv9
  obtain ⟨X, hX⟩ : ∃ X, X = Obj.cells #[.slice a9 zs.length cap9, .int .i64 torn, .int .i64 cut] 35 := ⟨_, rfl⟩
  have b2 : ((w.alloc X).drew.alloc (.cells (markA zs q) 4)).cell? ⟨w.heap.size, 0, none⟩ = some (.slice a9 zs.length cap9) ∧ ((w.alloc X).drew.alloc (.cells (markA zs q) 4)).cell? ⟨L.b, 1, none⟩ = some (.slice a q cap) := by
    rw [hX]
    refine ⟨?_, ?_⟩
    · rw [World.cell?_alloc_lt _ _ _ (by simp)]; exact c9
    · rw [World.cell?_alloc_lt _ _ _ (by have := h.head.lt; simp; omega)]; exact c1
  have HC : Hid (((w.alloc X).cell? ⟨w.heap.size, 0, none⟩ = some (.slice a9 zs.length cap9) ∧ (w.alloc X).cell? ⟨L.b, 1, none⟩ = some (.slice a q cap))) := by rw [hX]; exact ⟨c9, c1⟩
  have HC2 : Hid (((w.alloc X).drew.alloc (.cells (markA zs q) 4)).cell? ⟨w.heap.size, 0, none⟩ = some (.slice a9 zs.length cap9) ∧ ((w.alloc X).drew.alloc (.cells (markA zs q) 4)).cell? ⟨L.b, 1, none⟩ = some (.slice a q cap)) := b2
  have HI : Hid (Ints (w.alloc X).drew (.slice a9 zs.length cap9) zs) := (HKV.out.kept ((Below.refl _ w).alloc (Nat.le_refl _) X)).kept (Below.refl _ _).drew
  rw [hX] at HC HC2 HI
  clear h hkv hwv hq b2 hX
  go_enter Tryd.func15, Tryd.ntmps15
  go_wp2_with fail
  go_region_held3 (fun w' => w'.cell? ⟨w.heap.size, 0, none⟩ = some (.slice a9 zs.length cap9) ∧ w'.cell? ⟨L.b, 1, none⟩ = some (.slice a q cap)) (first | exact HC.out | exact HC2.out) (first | (go_at_call 28; refine (marks_v _ _ zs q HI.out hmany).mono ?_; rintro e w1 ⟨rfl, rfl⟩))
  obtain ⟨W1, hW1⟩ : ∃ W1, ((w.alloc (.cells #[.slice a9 zs.length cap9, .int .i64 torn, .int .i64 cut] 35)).alloc (.cells (markA zs q) 4)).drew = W1 := ⟨_, rfl⟩
  rw [hW1]
  have hx1 : W1.cell? ⟨w.heap.size, 1, none⟩ = some (.int .i64 torn) := by
    rw [← hW1]
    show ((w.alloc (.cells #[.slice a9 zs.length cap9, .int .i64 torn, .int .i64 cut] 35)).alloc _).cell? _ = _
    rw [World.cell?_alloc_lt _ _ _ (by simp), cell_of_row _ _ _ _ _ _ (heap_alloc_last w _)]; rfl
  have hx2 : W1.cell? ⟨w.heap.size, 2, none⟩ = some (.int .i64 cut) := by
    rw [← hW1]
    show ((w.alloc (.cells #[.slice a9 zs.length cap9, .int .i64 torn, .int .i64 cut] 35)).alloc _).cell? _ = _
    rw [World.cell?_alloc_lt _ _ _ (by simp), cell_of_row _ _ _ _ _ _ (heap_alloc_last w _)]; rfl
  have hmk : ∀ j, j < q → W1.cell? ⟨w.heap.size + 1, j, none⟩ = some (.bool (decide ((j : Int) ∈ zs))) := by
    intro j hj
    rw [← hW1]
    have := heap_alloc_last (w.alloc (.cells #[.slice a9 zs.length cap9, .int .i64 torn, .int .i64 cut] 35)) (.cells (markA zs q) 4)
    rw [World.size_alloc] at this
    show ((w.alloc (.cells #[.slice a9 zs.length cap9, .int .i64 torn, .int .i64 cut] 35)).alloc _).cell? _ = _
    rw [cell_of_row _ _ _ _ _ _ this, markA_get _ _ _ hj]
  have hD1 : IsDisk (fun k => K k ∨ k = w.heap.size ∨ k = w.heap.size + 1) W1 L S := by
    rw [← hW1]
    refine ((H.out.alloc _).alloc _).drew.turnK ?_ ?_
    · rintro k hf (hk | rfl | rfl)
      · exact H.out.nK k hf hk
      · have := H.out.lt _ hf; omega
      · have := H.out.lt _ hf; omega
    · rintro k (hk | rfl | rfl)
      · have := H.out.kl k hk; show k < ((w.alloc _).alloc _).heap.size; simp; omega
      · show w.heap.size < ((w.alloc _).alloc _).heap.size; simp; omega
      · show w.heap.size + 1 < ((w.alloc _).alloc _).heap.size; simp
  have hK1 : Kept K w W1 := by
    rw [← hW1]
    refine (((Kept.refl K w).alloc H.out.kl _).alloc ?_ _).drew
    intro k hk; have := H.out.kl k hk; simp; omega
  have HX1 : Hid _ := hx1
  have HX2 : Hid _ := hx2
  have HMK : Hid (∀ j, j < q → W1.cell? ⟨w.heap.size + 1, j, none⟩ = some (.bool (decide ((j : Int) ∈ zs)))) := hmk
  have HD1 : Hid (IsDisk (fun k => K k ∨ k = w.heap.size ∨ k = w.heap.size + 1) W1 L S) := hD1
  have HK1 : Hid (Kept K w W1) := hK1
  have c1' : W1.cell? ⟨L.b, 1, none⟩ = some (.slice a q cap) := by rw [← HQ.out, ← HW.out]; exact hD1.head.cell.2.1
  clear hW1 hx1 hx2 hmk hD1 hK1 c1 c9
  have hz64 := Tryd.zeroWr
  have hs64 := Tryd.storeWr0
  have hl64 := wrCells_length
  go_wp2_with fail
  go_loopw [6, 22] (fun c i wr => ∃ k : Nat, k ≤ q ∧ i = .int .i64 k ∧ c = .int .i64 (keptTo zs k : Nat) ∧ IsDisk (fun k => K k ∨ k = w.heap.size ∨ k = w.heap.size + 1) wr L { S with safe := crashTo zs torn cut S.safe S.waits k } ∧ Kept (fun k => K k ∨ k = w.heap.size ∨ k = w.heap.size + 1) W1 wr) (fun _ i _ => q - (intOf i).toNat)
  case atStart => exact ⟨0, by omega, rfl, rfl, HD1.out, Kept.refl _ _⟩
  case round =>
    obtain ⟨k, hk, rfl, rfl, hD, hKp⟩ := hrel
    have HD : Hid (IsDisk (fun k => K k ∨ k = w.heap.size ∨ k = w.heap.size + 1) wr L { S with safe := crashTo zs torn cut S.safe S.waits k }) := hD
    have HKP : Hid (Kept (fun k => K k ∨ k = w.heap.size ∨ k = w.heap.size + 1) W1 wr) := hKp
    by_cases hlt : k < q
    · have hkq : k < S.waits.length := by rw [HQ.out]; exact hlt
      have hkt := keptTo_le zs k
      have HKT : Hid (keptTo zs (k + 1) = keptTo zs k + (if (k : Int) ∈ zs then 1 else 0)) := rfl
      obtain ⟨kt, hkte⟩ : ∃ kt, keptTo zs k = kt := ⟨_, rfl⟩
      rw [hkte] at hkt HKT ⊢
      clear hkte
      obtain ⟨p, hp⟩ : ∃ p, S.waits[k]? = some p := ⟨_, List.getElem?_eq_getElem hkq⟩
      obtain ⟨g, cap', hwv', hcap, hrg⟩ := waits_at hD.waits hp
      obtain ⟨rfl, rfl⟩ : a = some ⟨g, 0, none⟩ ∧ cap = cap' := by
        have := HW.out.symm.trans hwv'
        simp only [Value.slice.injEq] at this
        exact ⟨this.1, this.2.2⟩
      have HRG : Hid (wr.rangeAt g (129 * k) (wrCells p)) := hrg
      have hpn : p.1 < S.n := hD.ok.at' p (List.mem_of_getElem? hp)
      have hn := hD.ok.n2
      obtain ⟨x, s⟩ := p
      simp only at hpn
      have HS0 : Hid _ := box_reads hD x s hpn
      have HS1 : Hid (∀ cs, _) := box_reads2 hD x s hpn
      have hbox : w.heap.size + 1 < wr.heap.size := by have := hD.kl (w.heap.size + 1) (.inr (.inr rfl)); exact this
      have hmkk : (wr.alloc (.cells (wrCells (x, s)).toArray 72)).cell? ⟨w.heap.size + 1, k, none⟩ = some (.bool (decide ((k : Int) ∈ zs))) := by
        rw [World.cell?_alloc_lt _ _ _ hbox, hKp.cell (p := ⟨w.heap.size + 1, k, none⟩) (.inr (.inr rfl))]; exact HMK.out k hlt
      have hxk1 : (wr.alloc (.cells (wrCells (x, s)).toArray 72)).cell? ⟨w.heap.size, 1, none⟩ = some (.int .i64 torn) := by
        rw [World.cell?_alloc_lt _ _ _ (by simp only; omega), hKp.cell (p := ⟨w.heap.size, 1, none⟩) (.inr (.inl rfl))]; exact HX1.out
      have hxk2 : (wr.alloc (.cells (wrCells (x, s)).toArray 72)).cell? ⟨w.heap.size, 2, none⟩ = some (.int .i64 cut) := by
        rw [World.cell?_alloc_lt _ _ _ (by simp only; omega), hKp.cell (p := ⟨w.heap.size, 2, none⟩) (.inr (.inl rfl))]; exact HX2.out
      have i1 : (0 : Int) ≤ (x : Int) := by omega
      have i2 : (x : Int) < (S.n : Int) := by omega
      have HP : Hid (S.waits[k]? = some (x, s)) := hp
      by_cases hin : (k : Int) ∈ zs
      · have HF : Hid (IsDisk (fun k => K k ∨ k = w.heap.size ∨ k = w.heap.size + 1) ((wr.alloc (.cells (wrCells (x, s)).toArray 72)).drew.setCells L.sb (x * 128) s.cells) L { S with safe := crashTo zs torn cut S.safe S.waits (k + 1) } ∧ Kept (fun k => K k ∨ k = w.heap.size ∨ k = w.heap.size + 1) W1 ((wr.alloc (.cells (wrCells (x, s)).toArray 72)).drew.setCells L.sb (x * 128) s.cells)) := by
          refine ⟨?_, (hKp.alloc hD.kl _).drew.setCells (hD.nK _ (.inr (.inl rfl))) _ _⟩
          rw [crashTo_kept hp hin, Nat.mul_comm x 128]
          exact (hD.alloc _).drew.store x s hpn
        have HIN : Hid (keptTo zs (k + 1) = kt + 1) := by rw [HKT.out, if_pos hin]; rfl
        rw [decide_eq_true hin] at hmkk
        have u54 := Tryd.underlying70
        have z54 : (Tryd.prog.info? 70).map (·.size) = some s.cells.length := by rw [Sec.cells_length]; exact Tryd.sizeSec
        have l54 : s.cells.length = 128 := Sec.cells_length s
        have o54 := s.cells_one
        clear hD hKp hwv' hrg hp hin
        go_wp2_with (refine wpList_load_mid rfl 72 _ rfl _ _ rfl (wrCells (x, s)) _ (by rw [Nat.mul_comm]; exact HRG.out) Tryd.underlying72 rfl (by rw [wrCells_length]; exact Tryd.sizeWr) ?_)
        go_region_held3 (fun w' => w'.cell? ⟨L.b, 0, none⟩ = some (.slice (some ⟨L.sb, 0, none⟩) S.n S.n) ∧ w'.cell? ⟨wr.heap.size, 0, none⟩ = some (.int .i64 (x : Nat)) ∧ w'.rangeAt wr.heap.size 1 s.cells ∧ w'.there L.sb (x * 128) 128) (first | exact HS0.out | exact HS1.out _) (fail)
        go_wp2
        go_roundw
        case rel => exact ⟨k + 1, by omega, by simp, by rw [HIN.out]; first | rfl | (simp; done) | go_num | (simp; omega), HF.out.1, HF.out.2⟩
        case measure => simp [intOf]; omega
      · have HIN : Hid (keptTo zs (k + 1) = kt) := by rw [HKT.out, if_neg hin]; rfl
        rw [decide_eq_false hin] at hmkk
        by_cases htorn : (k : Int) = torn ∧ 0 < cut ∧ cut < 128
        · obtain ⟨t1, t2, t3⟩ := htorn
          subst t1
          obtain ⟨c, rfl⟩ := Int.eq_ofNat_of_zero_le (show 0 ≤ cut by omega)
          have hc1 : 0 < c := by omega
          have hc2 : c < 128 := by omega
          have HF : Hid (IsDisk (fun k => K k ∨ k = w.heap.size ∨ k = w.heap.size + 1) ((wr.alloc (.cells (wrCells (x, s)).toArray 72)).drew.setCells L.sb (x * 128) (s.cells.take c)) L { S with safe := crashTo zs (k : Nat) (c : Nat) S.safe S.waits (k + 1) } ∧ Kept (fun k => K k ∨ k = w.heap.size ∨ k = w.heap.size + 1) W1 ((wr.alloc (.cells (wrCells (x, s)).toArray 72)).drew.setCells L.sb (x * 128) (s.cells.take c))) := by
            refine ⟨?_, (hKp.alloc hD.kl _).drew.setCells (hD.nK _ (.inr (.inl rfl))) _ _⟩
            rw [crashTo_torn hp hin ⟨rfl, t2, t3⟩, Nat.mul_comm x 128]
            exact (hD.alloc _).drew.tears x s c (by omega) hpn
          have hsb : L.sb ≠ w.heap.size := fun e => hD.nK _ (.inr (.inl rfl)) (.inr (.inl e))
          have hxk3 : ((wr.alloc (.cells (wrCells (x, s)).toArray 72)).drew.setCells L.sb (x * 128) (s.cells.take c)).cell? ⟨w.heap.size, 2, none⟩ = some (.int .i64 (c : Nat)) := by
            rw [World.cell?_setCells_out _ _ _ _ _ (fun e => absurd e.symm hsb)]; exact hxk2
          have HB0 : Hid ((wr.alloc (.cells (wrCells (x, s)).toArray 72)).cell? ⟨L.b, 0, none⟩ = some (.slice (some ⟨L.sb, 0, none⟩) S.n S.n) ∧ (wr.alloc (.cells (wrCells (x, s)).toArray 72)).cell? ⟨wr.heap.size, 0, none⟩ = some (.int .i64 (x : Nat)) ∧ (wr.alloc (.cells (wrCells (x, s)).toArray 72)).cell? ⟨w.heap.size, 2, none⟩ = some (.int .i64 (c : Nat))) := ⟨HS0.out.1, HS0.out.2.1, hxk2⟩
          have HB1 : Hid (((wr.alloc (.cells (wrCells (x, s)).toArray 72)).drew.setCells L.sb (x * 128) (s.cells.take c)).cell? ⟨L.b, 0, none⟩ = some (.slice (some ⟨L.sb, 0, none⟩) S.n S.n) ∧ ((wr.alloc (.cells (wrCells (x, s)).toArray 72)).drew.setCells L.sb (x * 128) (s.cells.take c)).cell? ⟨wr.heap.size, 0, none⟩ = some (.int .i64 (x : Nat)) ∧ ((wr.alloc (.cells (wrCells (x, s)).toArray 72)).drew.setCells L.sb (x * 128) (s.cells.take c)).cell? ⟨w.heap.size, 2, none⟩ = some (.int .i64 (c : Nat))) := ⟨(HS1.out _).1, (HS1.out _).2.1, hxk3⟩
          have HLN : Hid ((s.cells.take c).length = c) := by show _ = _; rw [List.length_take, Sec.cells_length]; omega
          have HSRC : Hid (∀ j v, (s.cells.take c)[j]? = some v → (wr.alloc (.cells (wrCells (x, s)).toArray 72)).drew.cell? ((⟨wr.heap.size, 1, none⟩ : Addr).add j) = some v) := by
            intro j v hv
            have hj : j < c := by have := (List.getElem?_eq_some_iff.1 hv).1; rwa [HLN.out] at this
            rw [List.getElem?_take_of_lt hj] at hv
            rw [Addr.add_mid]
            exact HS0.out.2.2.1 j v hv
          have HTH : Hid ((wr.alloc (.cells (wrCells (x, s)).toArray 72)).drew.there L.sb (x * 128) (s.cells.take c).length) := fun j hj => HS0.out.2.2.2 j (by rw [HLN.out] at hj; omega)
          have HO1 : Hid (∀ v ∈ s.cells.take c, v.oneCell' = true) := fun v hv => s.cells_one v (List.mem_of_mem_take hv)
          have HN : Hid ((s.cells.take c).length = Nat.min 128 c) := by show _ = _; rw [HLN.out]; exact (Nat.min_eq_right (by omega)).symm
          have j1 : (0 : Int) ≤ (c : Int) := by omega
          have j2 : (c : Int) ≤ 128 := by omega
          clear hD hKp hwv' hrg hp hin hxk3 HS0 HS1
          go_wp2_with (refine wpList_load_mid rfl 72 _ rfl _ _ rfl (wrCells (x, s)) _ (by rw [Nat.mul_comm]; exact HRG.out) Tryd.underlying72 rfl (by rw [wrCells_length]; exact Tryd.sizeWr) ?_)
          go_region_held3 (fun w' => w'.cell? ⟨L.b, 0, none⟩ = some (.slice (some ⟨L.sb, 0, none⟩) S.n S.n) ∧ w'.cell? ⟨wr.heap.size, 0, none⟩ = some (.int .i64 (x : Nat)) ∧ w'.cell? ⟨w.heap.size, 2, none⟩ = some (.int .i64 (c : Nat))) (first | exact HB0.out | exact HB1.out) ((refine step_copy_mid (by rfl) _ _ 32 32 (by rfl) 5 Tryd.underlying32 Tryd.sizeU8 L.sb (x * 128) c 128 ⟨wr.heap.size, 1, none⟩ 128 128 (by rfl) (by rfl) (s.cells.take c) HN.out HSRC.out HTH.out HO1.out ?_))
          go_wp2
          go_roundw
          case rel => exact ⟨k + 1, by omega, by simp, by rw [HIN.out], HF.out.1, HF.out.2⟩
          case measure => simp [intOf]; omega
        · have HF : Hid (IsDisk (fun k => K k ∨ k = w.heap.size ∨ k = w.heap.size + 1) (wr.alloc (.cells (wrCells (x, s)).toArray 72)) L { S with safe := crashTo zs torn cut S.safe S.waits (k + 1) } ∧ Kept (fun k => K k ∨ k = w.heap.size ∨ k = w.heap.size + 1) W1 (wr.alloc (.cells (wrCells (x, s)).toArray 72))) := by
            refine ⟨?_, hKp.alloc hD.kl _⟩
            rw [crashTo_lost hp hin htorn]
            exact hD.alloc _
          clear hD hKp hwv' hrg hp hin HS0 HS1
          by_cases t1 : (k : Int) = torn
          · subst t1
            by_cases t2 : 0 < cut
            · have t3 : 128 ≤ cut := by omega
              clear htorn
              go_wp2_with (refine wpList_load_mid rfl 72 _ rfl _ _ rfl (wrCells (x, s)) _ (by rw [Nat.mul_comm]; exact HRG.out) Tryd.underlying72 rfl (by rw [wrCells_length]; exact Tryd.sizeWr) ?_)
              go_roundw
              case rel => exact ⟨k + 1, by omega, by simp, by rw [HIN.out], HF.out.1, HF.out.2⟩
              case measure => simp [intOf]; omega
            · clear htorn
              go_wp2_with (refine wpList_load_mid rfl 72 _ rfl _ _ rfl (wrCells (x, s)) _ (by rw [Nat.mul_comm]; exact HRG.out) Tryd.underlying72 rfl (by rw [wrCells_length]; exact Tryd.sizeWr) ?_)
              go_roundw
              case rel => exact ⟨k + 1, by omega, by simp, by rw [HIN.out], HF.out.1, HF.out.2⟩
              case measure => simp [intOf]; omega
          · clear htorn
            go_wp2_with (refine wpList_load_mid rfl 72 _ rfl _ _ rfl (wrCells (x, s)) _ (by rw [Nat.mul_comm]; exact HRG.out) Tryd.underlying72 rfl (by rw [wrCells_length]; exact Tryd.sizeWr) ?_)
            go_roundw
            case rel => exact ⟨k + 1, by omega, by simp, by rw [HIN.out], HF.out.1, HF.out.2⟩
            case measure => simp [intOf]; omega
    · obtain rfl : k = q := by omega
      clear hD hKp
      go_wp2_with fail
      refine (forget_v HD.out).mono ?_
      rintro e w4 ⟨⟨v, rfl⟩, h4, k4⟩
      have c4 := h4.head.cell.2.2.2.2
      have f4 := h4.head.frozen 4
      have H4 : Hid (IsDisk K (w4.setCell ⟨L.b, 4, none⟩ (.int .i64 (-1))) { L with wv := .slice none 0 0 } (S.crashed zs torn cut)) := by
        have := (h4.less (K' := K) (fun k hk => .inl hk)).setLeft (-1) (by omega) (by omega)
        have e : (S.crashed zs torn cut) = { S with safe := crashTo zs torn cut S.safe S.waits k, waits := [], left := -1 } := by rw [St.crashed, HQ.out]
        rw [e]
        exact this
      have K4 : Hid (Kept K w (w4.setCell ⟨L.b, 4, none⟩ (.int .i64 (-1)))) := by
        refine (HK1.out.trans ((HKP.out.trans k4).mono (fun k hk => .inl hk))).setCell ?_ _
        exact fun hk => H.out.nK _ (.inl rfl) hk
      clear h4 k4
      go_wp2
      go_ret
      exact ⟨by rw [HQ.out]; rfl, H4.out, K4.out⟩
end Go.Proofs.YthhdkadjlddmkaaDoor

/- The contract of the iterator 'sectors': each sector of some octets, counted from 0 on. -/
namespace Go.Proofs.YthhdkadjlddmkaaDoor
open Go.RowKit Go.Shelf
set_option linter.unusedVariables false
attribute [local go_sem] Oper.semAt_some

/-- A whole variable out of the midst of a block, inside a fence. -/
theorem wpListIn_load_mid {F : Fence} {nF : Nat} {P : Program} {ops : Array Oper} {rest : List Oper} {op : Oper} {a : Act} {w : World} {Q : Exit → Act → World → Prop} (hgd : op.guard = none) (ty : TypeId) (x : Operand) (ho : op.op = .load ty x)
    (b o : Nat) (hx : a.eval x = .pointer (some ⟨b, o, none⟩)) (cs : List Value) (d : TypeDesc) (hc : w.rangeAt b o cs)
    (hu : P.underlying ty = some d) (hd : d.isRow = true) (hi : (P.info? ty).map (·.size) = some cs.length)
    (h : wpListIn F nF P ops Q rest (a.put op.dst (.agg cs.toArray)) w) : wpListIn F nF P ops Q (op :: rest) a w := by
  refine wpListIn_plain hgd fun K' hK' => ?_
  unfold Oper.wpIn
  refine ⟨by simp [Oper.about, ho], ?_⟩
  rw [Oper.semAt_plain F _ _ (by rw [ho]; intro c hc'; cases hc')]
  unfold execOp
  simp only [ho, hx, Instr.loadAt, Instr.sureAddr, Sem.run_bind, Sem.run_pure, Result.andThen_ok, run_loadVar_mid w b o ty cs d hc hu hd hi]
  exact hK' _ _ h

/-! ### The sectors of octets -/
def Octets (zs : List Nat) : Prop := ∀ z ∈ zs, z < 256
def secAt (zs : List Nat) (i : Nat) : Sec :=
  if h : 128 * i + 128 ≤ zs.length ∧ zs.all (fun z => decide (z < 256)) = true then ⟨(zs.drop (128 * i)).take 128, by rw [List.length_take, List.length_drop]; omega, fun x hx => of_decide_eq_true (List.all_eq_true.1 h.2 x (List.mem_of_mem_drop (List.mem_of_mem_take hx)))⟩ else Sec.zero
theorem secAt_l {zs : List Nat} {i : Nat} (h : 128 * i + 128 ≤ zs.length) (ho : Octets zs) : (secAt zs i).l = (zs.drop (128 * i)).take 128 := by
  unfold secAt; rw [dif_pos ⟨h, List.all_eq_true.2 fun z hz => decide_eq_true (ho z hz)⟩]
/-- What a round is handed: a number below m, and a sector. -/
abbrev Al (m : Nat) : Type := { p : Nat × Sec // p.1 < m }
abbrev alEnc {m : Nat} (x : Al m) : Array Value := #[.int .i64 (x.1.1 : Nat), .agg x.1.2.cells.toArray]
def xsTo (zs : List Nat) (m k : Nat) : List (Al m) := (List.range k).filterMap fun i => if h : i < m then some ⟨(i, secAt zs i), h⟩ else none
theorem xsTo_succ (zs : List Nat) {m k : Nat} (h : k < m) : xsTo zs m (k + 1) = xsTo zs m k ++ [⟨(k, secAt zs k), h⟩] := by
  simp [xsTo, List.range_succ, h]
theorem xsTo_length (zs : List Nat) (m : Nat) : ∀ k, k ≤ m → (xsTo zs m k).length = k
  | 0, _ => rfl
  | k + 1, h => by rw [xsTo_succ zs (by omega), List.length_append, xsTo_length zs m k (by omega)]; rfl

theorem oct_cells {w : World} {b off : Nat} {zs : List Nat} (h : OctAt w b off zs) (ho : Octets zs) {k : Nat} (hk : 128 * k + 128 ≤ zs.length) : w.rangeAt b (off + 128 * k) (secAt zs k).cells := fun j v hv => by
  have hj : j < 128 := by have := (List.getElem?_eq_some_iff.1 hv).1; rwa [Sec.cells_length] at this
  have := h (128 * k + j) (by omega)
  rw [show off + 128 * k + j = off + (128 * k + j) by omega, this, ← hv]
  have hlt : 128 * k + j < zs.length := by omega
  simp [Sec.cells, u8s, secAt_l hk ho, List.getElem?_take_of_lt hj, List.getElem?_drop, List.getElem?_eq_getElem hlt]

theorem grown_box (wr : World) (c : Array Value) (t : TypeId) (cs : List Value) : wr.grownBy ((wr.alloc (.cells c t)).drew.setCells wr.heap.size 0 cs) none := by
  obtain ⟨o1, o2, o3⟩ := os_setCells wr.heap.size cs 0 (wr.alloc (.cells c t)).drew
  refine ⟨o1, o2, o3, ?_, ?_⟩
  · rw [size_setCells]; show wr.heap.size ≤ (wr.alloc (.cells c t)).heap.size; simp
  · intro k hk _
    rw [heap_setCells _ _ _ _ _ (by omega)]
    exact Below.heap_alloc wr _ k hk

set_option maxRecDepth 100000 in
set_option maxHeartbeats 1000000 in
theorem sectors1_in (n l Bs bb off cap m : Nat) (zs : List Nat) (hn : 1 ≤ n) (hl : zs.length = 128 * m) (hm : m ≤ 1000000000) (hcap : zs.length ≤ cap) (ho : Octets zs) (J Jx : List (Al m) → World → Prop) (Kp : World → World → Prop)
    (hKc : ∀ A B, Kp A B → B.heap[Bs]? = A.heap[Bs]? ∧ B.heap[bb]? = A.heap[bb]? ∧ A.heap.size ≤ B.heap.size) (W : World) (hJ : AbidesFrom W.heap.size J)
    (hY : ∀ pre x W1, J pre W1 → pre.length < m → YieldAt Fence.wide (n - 1) Tryd.prog l (alEnc x) W1 fun e W' =>
      (e = .returned (.bool true) ∧ J (pre ++ [x]) W' ∧ Kp W1 W') ∨ (e = .returned (.bool false) ∧ Jx (pre ++ [x]) W'))
    (hBs : W.cell? ⟨Bs, 0, none⟩ = some (.slice (some ⟨bb, off, none⟩) (128 * m) cap)) (hbs : Bs < W.heap.size) (hbb : bb < W.heap.size) (hc : OctAt W bb off zs) (h0 : J [] W) :
    CallsIn Fence.wide n Tryd.prog 75 #[.func (.yield l) #[] #[], .pointer (some ⟨Bs, 0, none⟩)] W fun e W' => (∃ v, e = .returned v) ∧
      ((∃ ys, ys = xsTo zs m m ∧ J ys W') ∨ (∃ pre, True ∧ Jx pre W')) := by
  have HY : Hid (∀ pre x W1, J pre W1 → pre.length < m → YieldAt Fence.wide (n - 1) Tryd.prog l (alEnc x) W1 fun e W' =>
      (e = .returned (.bool true) ∧ J (pre ++ [x]) W' ∧ Kp W1 W') ∨ (e = .returned (.bool false) ∧ Jx (pre ++ [x]) W')) := hY
  have HC : Hid (OctAt W bb off zs) := hc
  have HKC : Hid (∀ A B, Kp A B → B.heap[Bs]? = A.heap[Bs]? ∧ B.heap[bb]? = A.heap[bb]? ∧ A.heap.size ≤ B.heap.size) := hKc
  have HJ : Hid (AbidesFrom W.heap.size J) := hJ
  have HH0 : Hid (J [] W) := h0
  clear hY hc hKc hJ h0
  have hz54 := Tryd.zeroSec
  have e1 : ((128 * m : Nat) : Int) / 128 = (m : Nat) := by omega
  refine callsIn_of_wp Tryd.func75 rfl trivial ?_ rfl
  simp only [Tryd.ntmps75, List.size_toArray, List.length_cons, List.length_nil, Nat.reduceAdd, Nat.reduceSub, Array.replicate_succ, Array.replicate_zero, List.push_toArray, List.append_toArray, List.nil_append, List.cons_append]
  gi_wp2
  gi_loopw [8] (fun i wr => ∃ k : Nat, k ≤ m ∧ i = .int .i64 k ∧ J (xsTo zs m k) wr ∧ wr.heap[Bs]? = W.heap[Bs]? ∧ wr.heap[bb]? = W.heap[bb]? ∧ W.heap.size ≤ wr.heap.size) (fun i _ => m - (intOf i).toNat)
  case atStart => exact ⟨0, Nat.zero_le _, rfl, HH0.out, rfl, rfl, Nat.le_refl _⟩
  case round =>
    obtain ⟨k, hk, rfl, hJs, hk1, hk2, hk3⟩ := hrel
    have HJS : Hid (J (xsTo zs m k) wr) := hJs
    have HK12 : Hid (wr.heap[Bs]? = W.heap[Bs]? ∧ wr.heap[bb]? = W.heap[bb]?) := ⟨hk1, hk2⟩
    by_cases hlt : k < m
    · have hB' : wr.cell? ⟨Bs, 0, none⟩ = some (.slice (some ⟨bb, off, none⟩) (128 * m) cap) := (World.cell?_of_block (w := W) (a := ⟨Bs, 0, none⟩) hk1).trans hBs
      obtain ⟨s, hs⟩ : ∃ s, s = secAt zs k := ⟨_, rfl⟩
      have hr1 : wr.rangeAt bb (off + 128 * k) s.cells := by
        rw [hs]
        refine oct_cells (fun j hj => ?_) ho (by omega)
        exact (World.cell?_of_block (w := W) (a := ⟨bb, off + j, none⟩) hk2).trans (HC.out j hj)
      obtain ⟨Z, hZ⟩ : ∃ Z, Z = (Array.replicate 128 (Value.int .u8 0)) := ⟨_, rfl⟩
      have hZs : Z.size = 128 := by rw [hZ]; simp
      rw [← hZ] at hz54
      clear hZ
      have hth : (wr.alloc (.cells Z 70)).drew.there wr.heap.size 0 s.cells.length := fun j hj => by
        rw [Sec.cells_length] at hj
        show ((wr.alloc (.cells Z 70)).cell? ⟨wr.heap.size, 0 + j, none⟩).isSome = true ∧ (wr.alloc (.cells Z 70)).frozen? _ = false
        rw [cell_of_row _ _ _ _ _ _ (heap_alloc_last wr _)]
        refine ⟨by simp [hZs]; omega, ?_⟩
        have hb := heap_alloc_last wr (.cells Z 70)
        unfold World.frozen?
        simp only [hb]
        simp
      have HTH : Hid ((wr.alloc (.cells Z 70)).drew.there wr.heap.size 0 s.cells.length) := hth
      have HSRC : Hid (∀ j v, s.cells[j]? = some v → (wr.alloc (.cells Z 70)).drew.cell? ((⟨bb, off + k * 128, none⟩ : Addr).add j) = some v) := by
        intro j v hv
        rw [Addr.add_mid, Nat.mul_comm k 128]
        exact (World.rangeAt_alloc hr1 _) j v hv
      have HO1 : Hid (∀ v ∈ s.cells, v.oneCell' = true) := s.cells_one
      have hbs' : Bs < wr.heap.size := by omega
      have HS0 : Hid ((wr.alloc (.cells Z 70)).cell? ⟨Bs, 0, none⟩ = some (.slice (some ⟨bb, off, none⟩) (128 * m) cap)) := by
        show _ = _
        rw [World.cell?_alloc_lt _ _ _ hbs']; exact hB'
      have HS1 : Hid (((wr.alloc (.cells Z 70)).drew.setCells wr.heap.size 0 s.cells).cell? ⟨Bs, 0, none⟩ = some (.slice (some ⟨bb, off, none⟩) (128 * m) cap)) := by
        show _ = _
        rw [World.cell?_setCells_out _ _ _ _ _ (fun e => by simp only at e; omega)]; exact HS0.out
      have HRG : Hid (((wr.alloc (.cells Z 70)).drew.setCells wr.heap.size 0 s.cells).rangeAt wr.heap.size 0 s.cells) := World.rangeAt_setCells_same _ _ _ _ hth
      have hJ2 : J (xsTo zs m k) ((wr.alloc (.cells Z 70)).drew.setCells wr.heap.size 0 s.cells) := HJ.out _ _ _ none hJs (grown_box _ _ _ _) (fun r e => by cases e)
      obtain ⟨fn, tmps, assign, body, hy, hR⟩ := HY.out _ ⟨(k, s), hlt⟩ _ hJ2 (by rw [xsTo_length zs m k hk]; exact hlt)
      dsimp only [alEnc] at hy
      have HR : Hid _ := hR
      have HXS : Hid (xsTo zs m (k + 1) = xsTo zs m k ++ [⟨(k, s), hlt⟩]) := by rw [xsTo_succ zs hlt, hs]; rfl
      have i1 : (0 : Int) ≤ (k : Int) * 128 := by omega
      have i2 : (k : Int) * 128 ≤ ((128 * m : Nat) : Int) := by omega
      have i3 : ((128 * m : Nat) : Int) ≤ (cap : Int) := by omega
      have i4 : ¬ cap = k * 128 := by omega
      have i5 : ((k : Int) * 128).toNat = k * 128 := by omega
      have i6 : (k : Int) * 128 ≤ 128 * (m : Int) := by omega
      have i7 : ¬ cap - k * 128 = 0 := by omega
      have i8 : ¬ (128 * (m : Int) < (k : Int) * 128) := by omega
      have i9 : ¬ (k : Int) * 128 < 0 := by omega
      have e2 : IntKind.i64.wrap ((k : Int) * 128) = (k : Int) * 128 := by rw [IntKind.wrap_i64]; omega
      clear hJs hk1 hk2 hr1 hth hJ2 hs hR
      gi_wp2
      refine wpIn_wide.2 ?_
      go_region_held3 (fun w' => w'.cell? ⟨Bs, 0, none⟩ = some (.slice (some ⟨bb, off, none⟩) (128 * m) cap)) (first | exact HS0.out | exact HS1.out) ((refine step_copy_mid (by rfl) _ _ 32 32 (by rfl) 5 Tryd.underlying32 Tryd.sizeU8 wr.heap.size 0 128 128 ⟨bb, off + k * 128, none⟩ _ _ (by rfl) (by rfl) s.cells (by rw [Sec.cells_length]; exact (Nat.min_eq_right (by omega)).symm) HSRC.out HTH.out HO1.out ?_))
      gi_wp2_with (refine wpListIn_load_mid rfl 70 _ rfl _ _ rfl s.cells _ HRG.out Tryd.underlying70 rfl (by rw [Sec.cells_length]; exact Tryd.sizeSec) ?_)
      refine RoundIn.mono HR.out ?_
      rintro e W3 (⟨rfl, hJ3, hk3'⟩ | ⟨rfl, hJx3⟩)
      · have HJ3 : Hid (J (xsTo zs m (k + 1)) W3) := by rw [HXS.out]; exact hJ3
        have h3 := HKC.out _ _ hk3'
        have HF : Hid ((W3.heap[Bs]? = W.heap[Bs]? ∧ W3.heap[bb]? = W.heap[bb]?) ∧ W.heap.size ≤ W3.heap.size) := by
          have hbl : Bs < wr.heap.size := hbs'
          have hbb' : bb < wr.heap.size := by omega
          refine ⟨⟨?_, ?_⟩, ?_⟩
          · rw [h3.1, heap_setCells _ _ _ _ _ (by omega), ← HK12.out.1]; exact Below.heap_alloc wr _ _ hbl
          · rw [h3.2.1, heap_setCells _ _ _ _ _ (by omega), ← HK12.out.2]; exact Below.heap_alloc wr _ _ hbb'
          · have := h3.2.2
            rw [size_setCells] at this
            have e : (wr.alloc (.cells Z 70)).drew.heap.size = wr.heap.size + 1 := World.size_alloc wr _
            omega
        clear hJ3 hk3' h3
        gi_wp2
        go_roundw
        case rel => exact ⟨k + 1, by omega, by simp, HJ3.out, HF.out.1.1, HF.out.1.2, HF.out.2⟩
        case measure => simp [intOf]; omega
      · gi_wp2
        refine bodyPost_ret (results_none rfl _ _ _) rfl ?_
        exact ⟨⟨_, rfl⟩, .inr ⟨_, trivial, hJx3⟩⟩
    · obtain rfl : k = m := by omega
      clear hJs hk1 hk2
      gi_wp2
      go_end0
      exact ⟨⟨_, rfl⟩, .inl ⟨_, rfl, HJS.out⟩⟩

theorem sectors_v (w : World) (v : Value) (a : Option Addr) (len cap : Nat) (hv : v = .slice a len cap) :
    Calls Tryd.prog 71 #[v] w fun e w' => e = .returned (.func (.func 75) #[] #[.pointer (some ⟨w.heap.size, 0, none⟩)]) ∧ w' = w.alloc (.cells #[v] 32) := by
  subst hv
  go_enter Tryd.func71, Tryd.ntmps71
  go_wp2
  go_ret
  exact ⟨rfl, rfl⟩

/-- What a round must keep: the iterator's own box, and the octets. -/
abbrev KpS (Bs bb : Nat) : World → World → Prop := Kept (fun k => k = Bs ∨ k = bb)
theorem sectors_stops (n Bs bb off cap m : Nat) (zs : List Nat) (hn : 1 ≤ n) (hl : zs.length = 128 * m) (hm : m ≤ 1000000000) (hcap : zs.length ≤ cap) (ho : Octets zs) (w : World)
    (hBs : w.cell? ⟨Bs, 0, none⟩ = some (.slice (some ⟨bb, off, none⟩) (128 * m) cap)) (hbs : Bs < w.heap.size) (hbb : bb < w.heap.size) (hc : OctAt w bb off zs) :
    SeqStopsK Fence.wide n Tryd.prog 75 #[.pointer (some ⟨Bs, 0, none⟩)] (alEnc (m := m)) (KpS Bs bb) (fun ys => ys = xsTo zs m m) (fun _ => True) m w := fun l J Jx W hW hJ _ hY h0 =>
  sectors1_in n l Bs bb off cap m zs hn hl hm hcap ho J Jx (KpS Bs bb) (fun A B h => ⟨h.block _ (.inl rfl), h.block _ (.inr rfl), h.size⟩) W hJ hY
    ((hW.cell (p := ⟨Bs, 0, none⟩) hbs).trans hBs) (Nat.lt_of_lt_of_le hbs hW.size) (Nat.lt_of_lt_of_le hbb hW.size) (fun j hj => (hW.cell (p := ⟨bb, off + j, none⟩) hbb).trans (hc j hj)) h0
theorem kpS_b {w : World} {Bs bb : Nat} (h1 : Bs < w.heap.size) (h2 : bb < w.heap.size) (W : World) (l : Nat) (o o' : Obj) (hl : w.heap.size ≤ l) (h : W.heap[l]? = some o) (_ : o.isCells = false) (_ : o.isWalk = false) : KpS Bs bb W (W.putObj l o') :=
  (Kept.refl _ W).grown (grownBy_putObj' W l o') (fun k hk => by
    have h3 := (Array.getElem?_eq_some_iff.1 h).1
    refine ⟨by omega, fun e => ?_⟩
    have := Option.some.inj e
    omega)

end Go.Proofs.YthhdkadjlddmkaaDoor

/- A region that draws its order, in a round of a loop over a function: the plain laws serve. Generic over the program. -/
namespace Go.Proofs.YthhdkadjlddmkaaDoor
open Go.RowKit
set_option linter.unusedVariables false

/-! ### A region that draws its order, in a round -/
theorem wpOpIn_of_wpOp {P : Program} {ops : Array Oper} {Q : Exit → Act → World → Prop} (l n : Nat) (hnd : ∀ (j : Nat) (o : Oper), ops[j]? = some o → ∀ c : Call, o.op ≠ .defer c) (hLO : ¬ LetsOut Q)
    {i : Nat} {K K' : Act → World → Prop} {a : Act} {w : World} (hK : ∀ a w, K a w → K' a w) (h : wpOp P ops Q i K a w) : wpOpIn (Fence.wide.inRound l) n P ops Q i K' a w := by
  unfold wpOp at h
  unfold wpOpIn
  cases ho : ops[i]? with
  | none => rw [ho] at h; exact hK _ _ h
  | some o =>
    rw [ho] at h
    simp only at h ⊢
    split
    · rename_i hw
      rw [if_pos hw] at h
      rcases h with h | ⟨_, h⟩
      · refine ⟨fun _ _ => trivial, ?_⟩
        have e := Oper.semAt_eq (Fence.wide.inRound l).round a.eval o (hnd i o ho)
        rw [e]
        unfold Oper.wp at h
        generalize (execOp a.eval o).run P w = r at h
        cases r with
        | ok x w' =>
          cases x with
          | value v => exact hK _ _ h
          | skip => exact hK _ _ h
          | defer d => exact hK _ _ h
          | enter f args =>
            refine ⟨fun hd => by simp [Fence.wide, Fence.inRound] at hd, CallsIn.inRound l (callsIn_wide.2 (Calls.mono h ?_))⟩
            intro e w'' he
            cases e with
            | returned v => exact hK _ _ he
            | panicked c => exact he
            | outgrown => exact he
          | row r args =>
            refine ⟨fun hd => by simp [Fence.wide, Fence.inRound] at hd, fun c cs _ => ?_⟩
            obtain ⟨v, w'', h1, h2⟩ := h c cs
            exact ⟨v, w'', hK _ _ h1, stepsIn_wide.2 h2⟩
          | round _ _ _ _ _ => exact False.elim h
          | recover => exact False.elim h
          | spawn _ => exact False.elim h
          | comm _ _ _ => exact False.elim h
          | _ => exact False.elim h
        | halt x w' =>
          cases x with
          | panic v => exact h
          | _ => exact False.elim h
      · exact absurd h hLO
    · rename_i hw
      rw [if_neg hw] at h
      exact ⟨fun _ _ => trivial, hK _ _ h⟩
theorem wpAnyIn_of_wpAny {P : Program} {md : Region.Mode} {ops : Array Oper} {Q : Exit → Act → World → Prop} (l n : Nat) (hnd : ∀ (j : Nat) (o : Oper), ops[j]? = some o → ∀ c : Call, o.op ≠ .defer c) (hLO : ¬ LetsOut Q) :
    ∀ (fuel : Nat) (listed : Array Bool) (a : Act) (w : World), wpAny P md ops Q fuel listed a w → wpAnyIn (Fence.wide.inRound l) n P md ops Q fuel listed a w
  | 0, _, _, _, h => h
  | fuel + 1, listed, a, w, h => ⟨h.1, fun i hi => wpOpIn_of_wpOp l n hnd hLO (fun a' w' h' => wpAnyIn_of_wpAny l n hnd hLO fuel _ a' w' h') (h.2 i hi)⟩
def noDefer (ops : Array Oper) : Bool := ops.toList.all fun o => match o.op with
  | .defer _ => false
  | _ => true
theorem noDefer_spec {ops : Array Oper} (h : noDefer ops = true) : ∀ (j : Nat) (o : Oper), ops[j]? = some o → ∀ c : Call, o.op ≠ .defer c := by
  intro j o ho c e
  have h1 : o ∈ ops.toList := by
    rw [← Array.getElem?_toList] at ho
    exact List.mem_of_getElem? ho
  have := List.all_eq_true.1 h o h1
  rw [e] at this
  cases this
/-- The beginning: as 'wp_region_held_drew', in a round. -/
theorem wpIn_round_held {P : Program} {ops : Array Oper} {Q : Exit → Act → World → Prop} {S : World → Prop} {id l n : Nat} {a : Act} {w : World} (hm : P.follows .mixedOrders = true) (hd : noDefer ops = true) (hLO : ¬ LetsOut Q) (hS : S w.drew)
    (h : S w.drew → wpAnyH P .any ops Q S ops.size (Array.replicate ops.size false) a w.drew) : (Code.region id ops true).wpIn (Fence.wide.inRound l) n P Q a w :=
  wpIn_region_any hm (wpAnyIn_of_wpAny l n (noDefer_spec hd) hLO _ _ _ _ (wpAny_of_held _ _ _ _ (h hS)))
end Go.Proofs.YthhdkadjlddmkaaDoor

/- The contract of 'Load'. -/
namespace Go.Proofs.YthhdkadjlddmkaaDoor
open Go.RowKit Go.Shelf
set_option linter.unusedVariables false
attribute [local go_sem] Oper.semAt_some

def valW {m : Nat} (ps : List (Al m)) : List Wr := ps.map Subtype.val
theorem valW_snoc {m : Nat} (ps : List (Al m)) (x : Al m) : valW (ps ++ [x]) = valW ps ++ [x.1] := by simp [valW]
def loadSt (m : Nat) (ps : List Wr) : St := { n := m, safe := applyW (fun _ => Sec.zero) ps, waits := [], written := 0, left := -1 }

/-- It abides the turn of a block that is no cells and lies beyond its map. -/
theorem IsDisk.own {K : Nat → Prop} {A B : World} {L : Loc} {S : St} {row : Option Nat} {B0 : Nat} (h : IsDisk K A L S) (hg : A.grownBy B row) (hr : ∀ r, row = some r → B0 ≤ r ∧ ∃ o : Obj, A.heap[r]? = some o ∧ o.isCells = false) (hmb : L.mb < B0) : IsDisk K B L S := by
  refine h.same hg.size (fun k hk hf => hg.block k hk (fun e => ?_))
  obtain ⟨h1, o, ho, hc⟩ := hr k e.symm
  have key : ∀ c t f, A.heap[k]? = some (.cells c t f) → False := fun c t f hh => by rw [hh] at ho; cases ho; cases hc
  rcases hf with rfl | rfl | rfl | hf
  · exact key _ _ _ h.head
  · have h2 := h.ok.n1
    obtain ⟨v, hv⟩ := Option.isSome_iff_exists.1 (h.there 0 (by omega)).1
    obtain ⟨c, t, f, hh⟩ := cells_of_cell hv
    exact key c t f hh
  · omega
  · rcases h.waits.2 with ⟨e1, _⟩ | ⟨g, cap, cur, e1, _, hh, _⟩
    · rw [e1] at hf; cases hf
    · rw [e1] at hf
      obtain rfl : g = k := by simpa [Value.ownBlock] using hf
      exact key _ _ _ hh

end Go.Proofs.YthhdkadjlddmkaaDoor

/- The contract of 'Write'. -/
namespace Go.Proofs.YthhdkadjlddmkaaDoor
open Go.RowKit Go.Shelf
set_option linter.unusedVariables false
attribute [local go_sem] Oper.semAt_some

theorem find_congr {α : Type} {p q : α → Bool} : ∀ (l : List α), (∀ x ∈ l, p x = q x) → l.find? p = l.find? q
  | [], _ => rfl
  | x :: l, h => by
    rw [List.find?_cons, List.find?_cons, h x List.mem_cons_self, find_congr l (fun y hy => h y (List.mem_cons_of_mem _ hy))]
theorem lastOf_snoc (ps : List Wr) (p : Wr) (k : Nat) : lastOf (ps ++ [p]) k = if p.1 = k then some ps.length else lastOf ps k := by
  unfold lastOf
  rw [List.length_append, List.length_singleton, List.range_succ, List.reverse_append, List.reverse_singleton, List.singleton_append, List.find?_cons]
  have e : (ps ++ [p])[ps.length]? = some p := by simp
  rw [e]
  by_cases h : p.1 = k
  · simp [h]
  · rw [if_neg h]
    have h2 : ((Option.map (fun x => x.fst) (some p)) == some k) = false := by simp [h]
    rw [h2]
    simp only
    refine find_congr _ (fun i hi => ?_)
    have hi' : i < ps.length := by simpa using hi
    rw [List.getElem?_append_left hi']
theorem latest_snoc {D : DataW Unit} {ps : List Wr} (h : Latest D ps) (hD : Maps.IsMap D) (x : Nat) (s : Sec) (hx : x < 65536) : Latest (D.put (.int .i64 (x : Nat)) (.lit (.int .i64 (ps.length : Nat)))) (ps ++ [(x, s)]) := by
  intro k hk
  have hkey : WideAt.IsKeyLit (.int .i64 (x : Nat)) := (Maps.int_keyed Tryd.underlying3).key (Maps.keyOf_int_mk Tryd.underlying3 (wf_nat x (by omega)))
  rw [lastOf_snoc]
  by_cases e : x = k
  · subst e
    rw [if_pos rfl]
    refine ⟨fun h => (by cases h), fun i hi => ?_⟩
    cases hi
    exact ⟨Maps.has_put_same hD hkey _, Maps.atKey_put_same hD hkey _ _⟩
  · rw [if_neg e]
    have hne : (Lit.int .i64 (k : Nat)) ≠ (Lit.int .i64 (x : Nat)) := by
      intro he
      simp only [Lit.int.injEq, true_and] at he
      omega
    obtain ⟨h1, h2⟩ := h k hk
    refine ⟨fun hn => ?_, fun i hi => ?_⟩
    · rw [Maps.has_put_other hne]; exact h1 hn
    · rw [Maps.has_put_other hne, Maps.atKey_put_other hne]; exact h2 i hi

theorem Tryd.built64 (parts : List (Nat × Value)) : Tryd.prog.built 72 parts = Instr.fill (fun i => (#[(0, 1), (1, 128)] : Array (Nat × Nat))[i]?) (#[.int .i64 0] ++ Array.replicate 128 (.int .u8 0)) parts := by kernel_rfl
theorem fill_wr (x : Value) (cs : List Value) (hx : x.cells = #[x]) (hl : cs.length = 128) : Instr.fill (fun i => (#[(0, 1), (1, 128)] : Array (Nat × Nat))[i]?) (#[.int .i64 0] ++ Array.replicate 128 (.int .u8 0)) [(0, x), (1, .agg cs.toArray)] = some (x :: cs).toArray := by
  have hs : (.agg cs.toArray : Value).cells = cs.toArray := rfl
  simp only [Instr.fill, hx, hs]
  simp [hl]
  apply Array.ext_getElem?
  intro k
  obtain ⟨g1, g2⟩ := Great.foldl_set 1 cs 0 (#[x] ++ Array.replicate 128 (Value.int .u8 0))
  rw [g2 k]
  by_cases h0 : k = 0
  · subst h0
    rw [if_neg (by omega)]
    simp
  · by_cases h1 : k < 129
    · rw [if_pos (by simp [hl]; omega)]
      obtain ⟨j, rfl⟩ : ∃ j, k = j + 1 := ⟨k - 1, by omega⟩
      simp
    · rw [if_neg (by simp [hl]; omega), Array.getElem?_eq_none (by simp; omega), Array.getElem?_eq_none (by simp [hl]; omega)]
theorem run_build_wr (w : World) (x : Nat) (s : Sec) : (Instr.build 72 #[(0, .int .i64 (x : Nat)), (1, .agg s.cells.toArray)]).run Tryd.prog w = .ok (.agg (wrCells (x, s)).toArray) w :=
  run_build w 72 _ _ ((Tryd.built64 _).trans (fill_wr _ _ rfl (Sec.cells_length s)))
theorem Tryd.infoWr : (Tryd.prog.info? 72).map (fun i => (i.zero, i.size, i.bytes)) = some (some (.agg (#[.int .i64 0] ++ Array.replicate 128 (.int .u8 0))), 129, 136) := by kernel_rfl
theorem fill_one (z : Array Value) (hz : z.size = 129) (p : Wr) : Instr.fill (fun i => some (i * 129, 129)) z [(0, .agg (wrCells p).toArray)] = some (wrCells p).toArray := by
  have := Great.fill_whole (s := 129) (by decide) [.agg (wrCells p).toArray] z (fun v hv => by simp at hv; subst hv; show (wrCells p).toArray.size = 129; simp [wrCells_length]) (by simp [hz])
  simpa [Value.cells] using this

theorem range_size (z : Array Value) : ((Array.range (1 * 129)).map (z[· % z.size]!)).size = 129 := by simp
/-- 'm[k] = v', at the operation. -/
theorem wp_mapUpdate_own {P : Program} {w : World} {o : Oper} {a : Act} {K : Act → World → Prop} {Q : Exit → Act → World → Prop} (m x v : Operand) (t : TypeId) (hop : o.op = Op.mapUpdate t m x v)
    (k e : TypeId) (K0 : Maps.Keyed P k) (ht : P.underlying t = some (.map k e)) (R : Value → Option (DataW Unit × List MemPlace)) (b n : Nat) (D : DataW Unit)
    (hm : a.eval m = .map (some b)) (hown : w.ownsMap P k R b n D) (hn : n < maxLen) (key val : Value) (kl : Lit) (hx : a.eval x = key) (hv : a.eval v = val) (hkey : keyOf P k key = some kl)
    (d : DataW Unit) (ps : List MemPlace) (hval : R val = some (d, ps))
    (hK : ∀ w', w'.ownsMap P k R b (n + 1) (D.put kl d) → w.grownBy w' (some b) → K (a.put o.dst undef) w') : o.wp P a w K Q := by
  obtain ⟨w', hrun, r1, r2⟩ := hown.update K0 ht hn hkey hval
  unfold Oper.wp
  simp [execOp, hop, hm, hx, hv, hrun, Result.andThen]
  exact hK w' r1 r2

/-- A write more waits. -/
theorem IsDisk.wrote {K : Nat → Prop} {W W' : World} {L : Loc} {S : St} (h : IsDisk K W L S) (x : Nat) (s : Sec) (hx : x < S.n) (hm : S.waits.length + 1 ≤ 1000000000) (hw : S.written + 1 ≤ 1000000000) (g cap : Nat)
    (hmap : ∃ D : DataW Unit, W'.ownsMap Tryd.prog 3 (plainElem Tryd.prog 3) L.mb (S.waits.length + 1) D ∧ Latest D (S.waits ++ [(x, s)]))
    (hrow : W'.ownsRow 0 72 129 (.slice (some ⟨g, 0, none⟩) (S.waits.length + 1) cap) (S.waits.length + 1) (flatW S.waits ++ wrCells (x, s)))
    (hhead : Head W' L.b (.slice (some ⟨L.sb, 0, none⟩) S.n S.n) (.slice (some ⟨g, 0, none⟩) (S.waits.length + 1) cap) (.map (some L.mb)) (.int .i64 ((S.written + 1 : Nat) : Int)) (.int .i64 S.left))
    (hsb : W'.heap[L.sb]? = W.heap[L.sb]?) (hsize : W.heap.size ≤ W'.heap.size) (hg : L.wv.ownBlock = some g ∨ W.heap.size ≤ g) (hglt : g < W'.heap.size) :
    IsDisk K W' { L with wv := .slice (some ⟨g, 0, none⟩) (S.waits.length + 1) cap } { S with waits := S.waits ++ [(x, s)], written := S.written + 1 } where
  head := hhead
  safe i hi := rangeAt_same (h.safe i hi) hsb
  there := there_same h.there hsb
  waits := by
    have e : (S.waits ++ [(x, s)]).length = S.waits.length + 1 := by simp
    show W'.ownsRow 0 72 129 (.slice (some ⟨g, 0, none⟩) (S.waits.length + 1) cap) (S.waits ++ [(x, s)]).length (flatW (S.waits ++ [(x, s)]))
    rw [e, flatW_append]
    simpa [flatW] using hrow
  map := by
    obtain ⟨D, h1, h2⟩ := hmap
    exact ⟨D, by show W'.ownsMap _ _ _ L.mb (S.waits ++ [(x, s)]).length D; rw [List.length_append]; exact h1, h2⟩
  nK k hk := by
    rcases hk with hk | hk | hk | hk
    · exact h.nK k (.inl hk)
    · exact h.nK k (.inr (.inl hk))
    · exact h.nK k (.inr (.inr (.inl hk)))
    · obtain rfl : g = k := by simpa [Value.ownBlock] using hk
      rcases hg with hg | hg
      · exact h.nK g (.inr (.inr (.inr hg)))
      · intro hK
        have := h.kl g hK
        omega
  lt k hk := by
    rcases hk with hk | hk | hk | hk
    · exact Nat.lt_of_lt_of_le (h.lt k (.inl hk)) hsize
    · exact Nat.lt_of_lt_of_le (h.lt k (.inr (.inl hk))) hsize
    · exact Nat.lt_of_lt_of_le (h.lt k (.inr (.inr (.inl hk)))) hsize
    · obtain rfl : g = k := by simpa [Value.ownBlock] using hk
      exact hglt
  ne1 := h.ne1
  ne2 := h.ne2
  ne3 := h.ne3
  ne4 g' hg' := by
    obtain rfl : g = g' := by simpa [Value.ownBlock] using hg'
    rcases hg with hg | hg
    · exact h.ne4 g hg
    · have a1 := h.lt _ (.inl rfl)
      have a2 := h.lt _ (.inr (.inl rfl))
      have a3 := h.lt _ (.inr (.inr (.inl rfl)))
      exact ⟨by show g ≠ L.b; omega, by show g ≠ L.sb; omega, by show g ≠ L.mb; omega⟩
  kl k hk := Nat.lt_of_lt_of_le (h.kl k hk) hsize
  ok := ⟨h.ok.n1, h.ok.n2, by
    intro p hp
    rcases List.mem_append.1 hp with hp | hp
    · exact h.ok.at' p hp
    · rw [List.mem_singleton] at hp; subst hp; exact hx, by simpa using hm, hw, h.ok.l1, h.ok.l2⟩

/-- What a round of 'Write' leaves. -/
theorem wrote_end {K2 : Nat → Prop} {W W1 W3 : World} {L : Loc} {U : St} {aw : Option Addr} {q cw : Nat} (hD : IsDisk K2 W { L with wv := .slice aw q cw } U) (hq : U.waits.length = q) (x : Nat) (s : Sec) (hx : x < U.n) (hm : q + 1 ≤ 1000000000) (hw : U.written + 1 ≤ 1000000000)
    (D : DataW Unit) (hown1 : W1.ownsMap Tryd.prog 3 (plainElem Tryd.prog 3) L.mb (q + 1) D) (hlat : Latest D (U.waits ++ [(x, s)])) (hg1 : W.drew.grownBy W1 (some L.mb)) (g cap3 : Nat)
    (hown3 : W3.ownsRow 0 72 129 (.slice (some ⟨g, 0, none⟩) (q + 1) cap3) (q + 1) (flatW U.waits ++ wrCells (x, s)))
    (hg3 : (W1.drew.alloc (.cells (wrCells (x, s)).toArray 72)).grownBy W3 (Value.slice aw q cw).ownBlock)
    (hat3 : (Value.slice aw q cw).ownBlock = some g ∨ g = W1.heap.size + 1) (hlt3 : g < W3.heap.size) :
    Head W3 L.b (.slice (some ⟨L.sb, 0, none⟩) U.n U.n) (.slice aw q cw) (.map (some L.mb)) (.int .i64 (U.written : Nat)) (.int .i64 U.left) ∧
    Kept K2 W W3 ∧ (∀ k, k < W.heap.size → k ≠ L.b → k ≠ L.mb → (Value.slice aw q cw).ownBlock ≠ some k → W3.heap[k]? = W.heap[k]?) ∧
    IsDisk K2 ((W3.setCell ⟨L.b, 1, none⟩ (.slice (some ⟨g, 0, none⟩) (q + 1) cap3)).setCell ⟨L.b, 3, none⟩ (.int .i64 ((U.written : Int) + 1))) { L with wv := .slice (some ⟨g, 0, none⟩) (q + 1) cap3 } { U with waits := U.waits ++ [(x, s)], written := U.written + 1 } := by
  subst hq
  have hs1 : W.heap.size ≤ W1.heap.size := hg1.size
  have hs3 : W1.heap.size + 1 ≤ W3.heap.size := by have := hg3.size; simpa using this
  have hb1 : ∀ k, k < W.heap.size → k ≠ L.mb → W1.heap[k]? = W.heap[k]? := fun k hk e => hg1.block k hk (fun e' => e (Option.some.inj e'))
  have hb3 : ∀ k, k < W1.heap.size → (Value.slice aw U.waits.length cw).ownBlock ≠ some k → W3.heap[k]? = W1.heap[k]? := fun k hk e =>
    (hg3.block k (by simp; omega) (fun e' => e e'.symm)).trans (Below.heap_alloc W1.drew _ k hk)
  have hb : ∀ k, k < W.heap.size → k ≠ L.mb → (Value.slice aw U.waits.length cw).ownBlock ≠ some k → W3.heap[k]? = W.heap[k]? := fun k hk e1 e2 => (hb3 k (by omega) e2).trans (hb1 k hk e1)
  have nwv : ∀ k, k = L.b ∨ k = L.sb ∨ k = L.mb → (Value.slice aw U.waits.length cw).ownBlock ≠ some k := fun k hk e => by
    have := hD.ne4 k e
    rcases hk with rfl | rfl | rfl
    · exact this.1 rfl
    · exact this.2.1 rfl
    · exact this.2.2 rfl
  have lb : L.b < W.heap.size := hD.lt _ (.inl rfl)
  have lsb : L.sb < W.heap.size := hD.lt _ (.inr (.inl rfl))
  have lmb : L.mb < W.heap.size := hD.lt _ (.inr (.inr (.inl rfl)))
  have hH3 : Head W3 L.b (.slice (some ⟨L.sb, 0, none⟩) U.n U.n) (.slice aw U.waits.length cw) (.map (some L.mb)) (.int .i64 (U.written : Nat)) (.int .i64 U.left) := (hb L.b lb hD.ne2 (nwv _ (.inl rfl))).trans hD.head
  refine ⟨hH3, ?_, fun k hk _ e2 e3 => hb k hk e2 e3, ?_⟩
  · refine ⟨hg3.os.trans hg1.os, hg3.tape.trans hg1.tape, hg3.output.trans hg1.output, by omega, fun k hk => hb k (hD.kl k hk) (fun e => hD.nK k (.inr (.inr (.inl e))) hk) (fun e => hD.nK k (.inr (.inr (.inr e))) hk)⟩
  · have gb : g ≠ L.b := by
      rcases hat3 with h | h
      · exact (hD.ne4 g h).1
      · intro e; omega
    have gm : g ≠ L.mb := by
      rcases hat3 with h | h
      · exact (hD.ne4 g h).2.2
      · intro e; omega
    have hh : ∀ k, k ≠ L.b → ((W3.setCell ⟨L.b, 1, none⟩ (.slice (some ⟨g, 0, none⟩) (U.waits.length + 1) cap3)).setCell ⟨L.b, 3, none⟩ (.int .i64 ((U.written : Int) + 1))).heap[k]? = W3.heap[k]? := fun k hk =>
      (Below.heap_setCell _ _ _ k hk).trans (Below.heap_setCell _ _ _ k hk)
    have h5 := hD.wrote (W' := (W3.setCell ⟨L.b, 1, none⟩ (.slice (some ⟨g, 0, none⟩) (U.waits.length + 1) cap3)).setCell ⟨L.b, 3, none⟩ (.int .i64 ((U.written : Int) + 1))) x s hx hm hw g cap3
      ⟨D, ownsMap_same hown1 ((hh _ hD.ne2.symm).trans (hb3 L.mb (by omega) (nwv L.mb (.inr (.inr rfl))))), hlat⟩
      (ownsRow_same hown3 (fun g' hg' => hh _ (by
        obtain rfl : g = g' := by simpa [Value.ownBlock] using hg'
        exact gb)))
      (by have := (hH3.set1 (.slice (some ⟨g, 0, none⟩) (U.waits.length + 1) cap3)).set3 (.int .i64 ((U.written : Int) + 1)); exact this)
      ((hh _ hD.ne1.symm).trans (hb _ lsb hD.ne3 (nwv _ (.inr (.inl rfl))))) (by simp; omega) (by
        rcases hat3 with h | h
        · exact .inl h
        · right; omega) (by simpa using hlt3)
    exact h5

/-- 'build', in a region that draws its order: it may be taken first. -/
theorem yieldsIf_build {P : Program} {ops : Array Oper} {S : World → Prop} {op : Oper} {a : Act} (hw : Region.wanted op (yielded ops a.tmps) = true) (t : TypeId) (parts : Array (Nat × Operand)) (ho : op.op = .build t parts)
    (vals : Array (Nat × Value)) (hv : (parts.map fun (i, x) => (i, a.eval x)) = vals) (cells : Array Value) (hb : ∀ w, (Instr.build t vals).run P w = .ok (.agg cells) w) : YieldsIf P ops S op (.agg cells) a :=
  .inl ⟨hw, fun w _ => by
    unfold execOp
    simp only [ho, hv, Sem.run_bind, hb, Result.andThen_ok, Sem.run_pure]⟩

def wroteSt (S : St) (a : Nat) (ps : List Wr) : St := { S with waits := S.waits ++ ps.map (fun p => (a + p.1, p.2)), written := S.written + ps.length }
theorem wroteSt_snoc (S : St) (a : Nat) (ps : List Wr) (p : Wr) : wroteSt S a (ps ++ [p]) = { wroteSt S a ps with waits := (wroteSt S a ps).waits ++ [(a + p.1, p.2)], written := (wroteSt S a ps).written + 1 } := by
  simp [wroteSt, Nat.add_assoc]

set_option maxRecDepth 100000 in
set_option maxHeartbeats 2000000 in
theorem write_ok {K : Nat → Prop} {w : World} {L : Loc} {S : St} (h : IsDisk K w L S) (a m : Nat) (v : Value) (zs : List Nat) (hv : Octs w v zs) (hvK : ∀ x n c, v = .slice (some x) n c → K x.block) (hl : zs.length = 128 * m) (h1 : 1 ≤ m) (ham : a + m ≤ S.n) (hleft : S.left ≠ 0)
    (hm1 : S.waits.length + m ≤ 1000000000) (hm2 : S.written + m ≤ 1000000000) :
    Calls Tryd.prog 66 #[.pointer (some ⟨L.b, 0, none⟩), .int .i64 (a : Nat), v] w fun e w' => e = .returned (.int .i64 0) ∧ (∃ wv, IsDisk K w' { L with wv := wv } (wroteSt S.spent a (valW (xsTo zs m m)))) ∧ Kept K w w' := by
  obtain ⟨a9, cap, rfl⟩ := hv.shape
  rw [hl] at hv hvK ⊢
  obtain ⟨bb, off, rfl, hbb, hoct⟩ := hv.addr (by omega)
  have hKbb : K bb := hvK _ _ _ rfl
  have hcap : zs.length ≤ cap := by
    obtain ⟨_, _, a', cap', e, h3, _⟩ := hv
    simp only [Value.slice.injEq] at e
    omega
  have H : Hid (IsDisk K w L S) := h
  have HOC : Hid (OctAt w bb off zs) := hoct
  have HO : Hid (Octets zs) := hv.small
  have hn := h.ok.n2
  have hkl := h.kl bb hKbb
  clear hv hoct hvK h
  refine (callsIn_wide (n := 6)).1 (callsIn_of_wp_marks (F := Fence.wide) (n := 6) Tryd.func66 rfl trivial (wpIn_wide.2 ?_) rfl)
  simp only [Tryd.ntmps66, List.size_toArray, List.length_cons, List.length_nil, Nat.reduceAdd, Nat.reduceSub, Array.replicate_succ, Array.replicate_zero, List.push_toArray, List.append_toArray, List.nil_append, List.cons_append]
  have hD1 : IsDisk (fun k => K k ∨ k = w.heap.size ∨ k = w.heap.size + 1) ((w.alloc (.cells #[.pointer (some ⟨L.b, 0, none⟩)] 24)).alloc (.cells #[.int .i64 (a : Nat)] 3)) L S := by
    refine IsDisk.turnK (K := K) ((H.out.alloc _).alloc _) ?_ ?_
    · rintro k hf (hk | rfl | rfl)
      · exact H.out.nK k hf hk
      · have := H.out.lt _ hf; omega
      · have := H.out.lt _ hf; omega
    · rintro k (hk | rfl | rfl)
      · have := H.out.kl k hk; simp; omega
      · simp; omega
      · simp
  have HD1 : Hid (IsDisk (fun k => K k ∨ k = w.heap.size ∨ k = w.heap.size + 1) ((w.alloc (.cells #[.pointer (some ⟨L.b, 0, none⟩)] 24)).alloc (.cells #[.int .i64 (a : Nat)] 3)) L S) := hD1
  clear hD1
  go_wp2_with fail
  refine (has_v HD1.out _ _).mono ?_
  rintro e w1 ⟨rfl, rfl⟩
  rw [hasN_ok ham]
  go_wp2_with fail
  refine (spend_v HD1.out).mono ?_
  rintro e w2 ⟨rfl, hD2, hkp⟩
  rw [decide_eq_true hleft]
  have HD2 : Hid (IsDisk (fun k => K k ∨ k = w.heap.size ∨ k = w.heap.size + 1) w2 L S.spent) := hD2
  have hbd : Boxed w2 w.heap.size 24 (.pointer (some ⟨L.b, 0, none⟩)) := (hkp.block _ (.inr (.inl rfl))).trans ((Boxed.new w _ _).alloc _)
  have hba : Boxed w2 (w.heap.size + 1) 3 (.int .i64 (a : Nat)) := (hkp.block _ (.inr (.inr rfl))).trans (by
    have := Boxed.new (w.alloc (.cells #[.pointer (some ⟨L.b, 0, none⟩)] 24)) 3 (.int .i64 (a : Nat))
    rwa [World.size_alloc] at this)
  have hK2 : Kept K w w2 := by
    refine (((Kept.refl K w).alloc H.out.kl _).alloc ?_ _).trans (hkp.mono (fun k hk => .inl hk))
    intro k hk; have := H.out.kl k hk; simp; omega
  have HBX : Hid (Boxed w2 w.heap.size 24 (.pointer (some ⟨L.b, 0, none⟩)) ∧ Boxed w2 (w.heap.size + 1) 3 (.int .i64 (a : Nat))) := ⟨hbd, hba⟩
  have HK2 : Hid (Kept K w w2) := hK2
  have hsz2 : w.heap.size + 2 ≤ w2.heap.size := by have := hkp.size; simp at this; exact this
  have hc1 := hbd.cell
  clear hD2 hkp hbd hba hK2
  go_wp2_with fail
  refine (sectors_v _ _ (some ⟨bb, off, none⟩) (128 * m) cap rfl).mono ?_
  rintro e w3 ⟨rfl, rfl⟩
  go_wp2_with fail
  refine (wpIn_wide (n := 6)).1 ?_
  obtain ⟨W0, hW0⟩ : ∃ W0, w2.alloc (.cells #[.slice (some ⟨bb, off, none⟩) (128 * m) cap] 32) = W0 := ⟨_, rfl⟩
  have hsz : W0.heap.size = w2.heap.size + 1 := by rw [← hW0]; simp
  have hBs : Boxed W0 w2.heap.size 32 (.slice (some ⟨bb, off, none⟩) (128 * m) cap) := by rw [← hW0]; exact Boxed.new w2 _ _
  have hBd : Boxed W0 w.heap.size 24 (.pointer (some ⟨L.b, 0, none⟩)) := by rw [← hW0]; exact HBX.out.1.alloc _
  have hBa : Boxed W0 (w.heap.size + 1) 3 (.int .i64 (a : Nat)) := by rw [← hW0]; exact HBX.out.2.alloc _
  have hK0 : Kept K w W0 := by
    rw [← hW0]
    refine HK2.out.alloc (fun k hk => ?_) _
    have := H.out.kl k hk; omega
  have hD0 : IsDisk (fun k => (K k ∨ k = w.heap.size ∨ k = w.heap.size + 1) ∨ k = w2.heap.size) W0 L S.spent := by
    rw [← hW0]
    refine IsDisk.turnK (HD2.out.alloc _) ?_ ?_
    · rintro k hf (hk | rfl)
      · exact HD2.out.nK k hf hk
      · have := HD2.out.lt _ hf; omega
    · rintro k (hk | rfl)
      · have := HD2.out.kl k hk; simp; omega
      · simp
  rw [hW0]
  clear hW0
  have hmb : L.mb < W0.heap.size := hD0.lt _ (.inr (.inr (.inl rfl)))
  have hsb0 : L.sb < W0.heap.size := hD0.lt _ (.inr (.inl rfl))
  have hb0 : L.b < W0.heap.size := hD0.lt _ (.inl rfl)
  obtain ⟨T, hT⟩ : ∃ T, S.spent = T := ⟨_, rfl⟩
  have HT : Hid (S.spent = T) := hT
  have t1 : T.n = S.n := by rw [← hT]; rfl
  have t2 : T.waits = S.waits := by rw [← hT]; rfl
  have t3 : T.written = S.written := by rw [← hT]; rfl
  rw [hT] at hD0
  have HKL : Hid (∀ k, K k → k < w.heap.size) := H.out.kl
  clear hT
  refine wpIn_rangeFunc_ownH (F := Fence.wide) rfl (by decide) (gf := 75) (lb := #[.pointer (some ⟨w2.heap.size, 0, none⟩)]) rfl trivial (enters_of Tryd.func75 (by kernel_rfl) rfl)
    (sectors_stops 5 w2.heap.size bb off cap m zs (by decide) hl (by omega) hcap HO.out W0 hBs.cell hBs.lt (by omega) (fun j hj => (hK0.cell (p := ⟨bb, off + j, none⟩) hKbb).trans (HOC.out j hj)))
    Kept.trans (kpS_b hBs.lt (by omega)) (Below.refl _ _) (fun _ => rfl)
    (fun pre W => (∃ wv, IsDisk (fun k => (K k ∨ k = w.heap.size ∨ k = w.heap.size + 1) ∨ k = w2.heap.size) W { L with wv := wv } (wroteSt T a (valW pre))) ∧ Boxed W w.heap.size 24 (.pointer (some ⟨L.b, 0, none⟩)) ∧ Boxed W (w.heap.size + 1) 3 (.int .i64 (a : Nat)) ∧ Kept K w W ∧ W0.heap.size ≤ W.heap.size)
    (fun _ _ _ => False)
    (fun s A B row hs hg hr => ⟨by obtain ⟨wv, h⟩ := hs.1; exact ⟨wv, h.own hg hr hmb⟩, boxed_own w.heap.size 24 (fun (_ : Unit) => (.pointer (some ⟨L.b, 0, none⟩) : Value)) () A B row hs.2.1 hg (fun r e => (hr r e).2), boxed_own (w.heap.size + 1) 3 (fun (_ : Unit) => (.int .i64 (a : Nat) : Value)) () A B row hs.2.2.1 hg (fun r e => (hr r e).2), hs.2.2.2.1.grown hg (fun k hk => by have h5 := HKL.out k hk; exact ⟨by have := hs.2.2.2.2; omega, fun e => by have := (hr k e).1; omega⟩), Nat.le_trans hs.2.2.2.2 hg.size⟩)
    (fun _ _ _ _ _ hs _ _ => hs)
    ⟨⟨L.wv, by simpa [wroteSt, valW] using hD0⟩, hBd, hBa, hK0, Nat.le_refl _⟩
    (fun x a' W => ∃ Bx, W0.heap.size ≤ Bx ∧ W.heap[Bx]? = some (.cells x.1.2.cells.toArray 70 (0, 0)) ∧ a' = { tmps := #[.pointer (some ⟨L.b, 0, none⟩), .int .i64 (a : Nat), .slice (some ⟨bb, off, none⟩) (128 * m) cap, .pointer (some ⟨w.heap.size, 0, none⟩), .pointer (some ⟨w.heap.size + 1, 0, none⟩), undef, .int .i64 0, .int .i64 (x.1.1 : Nat), .pointer (some ⟨Bx, 0, none⟩), .slice (some ⟨bb, off, none⟩) (128 * m) cap, .int .i64 (128 * (m : Int)), .int .i64 0, .bool false, .bool false, .pointer (some ⟨L.b, 0, none⟩), .int .i64 (a : Nat), .slice (some ⟨bb, off, none⟩) (128 * m) cap, .int .i64 (128 * (m : Int)), .int .i64 (m : Nat), .bool true, .bool false, .bool false, .pointer (some ⟨L.b, 0, none⟩), .bool true, .bool false, .slice (some ⟨bb, off, none⟩) (128 * m) cap, .func (.func 75) #[] #[.pointer (some ⟨w2.heap.size, 0, none⟩)], .int .i64 (x.1.1 : Nat), .agg x.1.2.cells.toArray, undef, undef, undef, undef, undef, undef, undef, undef, undef, undef, undef, undef, undef, undef, undef, undef, undef, undef, undef, undef, undef, undef, undef, undef, undef, undef, undef, undef, undef, undef, undef, undef, undef], defers := [] })
    (fun x a' _ A B row hs hg hr => by
      obtain ⟨Bx, g1, g2, g3⟩ := hs
      refine ⟨Bx, g1, (hg.block Bx (Array.getElem?_eq_some_iff.1 g2).1 (fun e => ?_)).trans g2, g3⟩
      obtain ⟨_, o, ho, hc⟩ := hr Bx e.symm
      rw [g2] at ho; cases ho; cases hc)
    ?assign ?body ?done ?stop
  case assign =>
    rintro l pre x W K' ⟨⟨wv, hD⟩, hBd1, hBa1, hK1, hle⟩ hK
    have hz54 := Tryd.zeroSec
    have hs54 := Tryd.storeSec
    have hl54 := Sec.cells_length
    gi_wp2
    refine hK _ _ ((KeepsOthers.alloc _ _).from _) ((Kept.refl _ W).alloc (fun k hk => ?_) _) ⟨⟨wv, hD.alloc _⟩, hBd1.alloc _, hBa1.alloc _, hK1.alloc (fun k hk => by have := HKL.out k hk; omega) _, by simp; omega⟩ ⟨W.heap.size, hle, heap_alloc_last W _, rfl⟩
    rcases hk with rfl | rfl <;> omega
  case body =>
    rintro l pre ⟨⟨i, s⟩, hix⟩ a' W hl' ⟨r, hr⟩ ⟨⟨wv, hD⟩, hBd1, hBa1, hK1, hle⟩ ⟨Bx, hx1, hx2, rfl⟩ hlt
    simp only at hix hx2
    obtain ⟨i0, hi, hz0, hz1, hz2⟩ := info_parts Tryd.infoWr
    obtain ⟨aw, cw, rfl⟩ := wv_shape hD.waits
    have hvl : (valW pre).length = pre.length := by simp [valW]
    have hUe := wroteSt_snoc T a (valW pre) (i, s)
    obtain ⟨U, hU⟩ : ∃ U, wroteSt T a (valW pre) = U := ⟨_, rfl⟩
    have u1 : U.n = S.n := by rw [← hU]; exact t1
    have u2 : U.waits.length = S.waits.length + pre.length := by rw [← hU]; simp [wroteSt, t2, hvl]
    have u3 : U.written = S.written + pre.length := by rw [← hU]; simp [wroteSt, t3, hvl]
    rw [hU] at hD hUe
    clear hU
    obtain ⟨q, hq⟩ : ∃ q, U.waits.length = q := ⟨_, rfl⟩
    rw [hq] at hD
    obtain ⟨D, hmap, hlat⟩ := hD.map
    rw [hq] at hmap
    obtain ⟨c0, c1, c2, c3, c4⟩ := hD.head.cell
    simp only at c0 c1 c2 c3 c4
    have hmap' : W.drew.ownsMap Tryd.prog 3 (plainElem Tryd.prog 3) L.mb q D := hmap
    have HMAP : Hid (W.drew.ownsMap Tryd.prog 3 (plainElem Tryd.prog 3) L.mb q D) := hmap'
    have hisM := hmap.isMap
    have hkey : keyOf Tryd.prog 3 (.int .i64 ((a : Int) + (i : Int))) = some (.int .i64 ((a + i : Nat) : Int)) := by
      rw [← Int.natCast_add]; exact Maps.keyOf_int_mk Tryd.underlying3 (wf_nat (a + i) (by omega))
    have HL2 : Hid (Latest (D.put (.int .i64 ((a + i : Nat) : Int)) (.lit (.int .i64 (q : Nat)))) (U.waits ++ [(a + i, s)])) := by
      have := latest_snoc hlat hisM (a + i) s (by omega)
      rw [hq] at this
      exact this
    have hS0 : (fun w' : World => w'.cell? ⟨w.heap.size, 0, none⟩ = some (.pointer (some ⟨L.b, 0, none⟩)) ∧ w'.cell? ⟨L.b, 2, none⟩ = some (.map (some L.mb)) ∧ w'.cell? ⟨w.heap.size + 1, 0, none⟩ = some (.int .i64 (a : Nat)) ∧ w'.cell? ⟨L.b, 1, none⟩ = some (.slice aw q cw)) W.drew := ⟨hBd1.cell, c2, hBa1.cell, c1⟩
    have bne : L.b ≠ L.mb := hD.ne2
    have dne : w.heap.size ≠ L.mb := fun e => hD.nK _ (.inr (.inr (.inl rfl))) (.inl (.inr (.inl e.symm)))
    have ane : w.heap.size + 1 ≠ L.mb := fun e => hD.nK _ (.inr (.inr (.inl rfl))) (.inl (.inr (.inr e.symm)))
    have dne2 : w.heap.size ≠ L.b := fun e => hD.nK _ (.inl rfl) (.inl (.inr (.inl e.symm)))
    have ane2 : w.heap.size + 1 ≠ L.b := fun e => hD.nK _ (.inl rfl) (.inl (.inr (.inr e.symm)))
    have hBxw : (Value.slice aw q cw).ownBlock ≠ some Bx := by
      intro e
      rcases hD.waits.2 with ⟨e1, _⟩ | ⟨g, cap', cur, e1, _, hh, _⟩
      · simp only at e1
        rw [e1] at e; cases e
      · simp only at e1
        rw [e1] at e
        obtain rfl : g = Bx := by simpa [Value.ownBlock] using e
        rw [hx2] at hh
        simp at hh
    have hBxl : Bx < W.heap.size := (Array.getElem?_eq_some_iff.1 hx2).1
    have HX : Hid (W.heap[Bx]? = some (.cells s.cells.toArray 70 (0, 0))) := hx2
    have HD : Hid (IsDisk (fun k => (K k ∨ k = w.heap.size ∨ k = w.heap.size + 1) ∨ k = w2.heap.size) W { L with wv := .slice aw q cw } U) := hD
    have HBX2 : Hid (Boxed W w.heap.size 24 (.pointer (some ⟨L.b, 0, none⟩)) ∧ Boxed W (w.heap.size + 1) 3 (.int .i64 (a : Nat)) ∧ Kept K w W) := ⟨hBd1, hBa1, hK1⟩
    have HUE : Hid (wroteSt T a (valW pre ++ [(i, s)]) = { U with waits := U.waits ++ [(a + i, s)], written := U.written + 1 }) := hUe
    have e2 : IntKind.i64.wrap ((a : Int) + (i : Int)) = (a : Int) + (i : Int) := by rw [IntKind.wrap_i64]; omega
    have q1 : q + 1 ≤ 1000000000 := by omega
    have w1' : U.written + 1 ≤ 1000000000 := by omega
    have hxn : a + i < U.n := by omega
    have hq9 : q ≤ 1000000000 := by omega
    have hai : a + i < 65536 := by omega
    clear u1 u2 u3
    have hbl := hD.head.lt
    simp only at hbl
    clear hD hlat hmap hmap' hBd1 hBa1 hK1 hx2 hr hUe hisM
    gi_wp2
    refine wpIn_round_held (S := fun w' : World => w'.cell? ⟨w.heap.size, 0, none⟩ = some (.pointer (some ⟨L.b, 0, none⟩)) ∧ w'.cell? ⟨L.b, 2, none⟩ = some (.map (some L.mb)) ∧ w'.cell? ⟨w.heap.size + 1, 0, none⟩ = some (.int .i64 (a : Nat)) ∧ w'.cell? ⟨L.b, 1, none⟩ = some (.slice aw q cw)) (by kernel_rfl) (by kernel_rfl) (fun ⟨_, _, h⟩ => h) hS0 (fun hHeld => ?_)
    refine wpAnyH_take (i := 0) (v := .pointer (some ⟨L.b, 0, none⟩)) rfl (by kernel_rfl) (by kernel_rfl) (by kernel_rfl) (fun _ _ _ h => h) (Or.inl ⟨by rfl, fun w' hSw => ?_⟩) hHeld ?_
    · dsimp only at hSw
      go_simp
    simp only [Act.put, List.getElem_toArray, List.getElem_cons_zero, List.setIfInBounds_toArray, List.set_cons_zero, List.set_cons_succ]
    refine wpAnyH_take (i := 1) (v := .pointer (some ⟨L.b, 0, none⟩)) rfl (by kernel_rfl) (by kernel_rfl) (by kernel_rfl) (fun _ _ _ h => h) (Or.inl ⟨by rfl, fun w' hSw => ?_⟩) hHeld ?_
    · dsimp only at hSw
      go_simp
    simp only [Act.put, List.getElem_toArray, List.getElem_cons_succ, List.getElem_cons_zero, List.setIfInBounds_toArray, List.set_cons_zero, List.set_cons_succ]
    refine wpAnyH_take (i := 2) (v := .pointer (some ⟨L.b, 2, none⟩)) rfl (by kernel_rfl) (by kernel_rfl) (by kernel_rfl) (fun _ _ _ h => h) (Or.inl ⟨by rfl, fun w' hSw => ?_⟩) hHeld ?_
    · dsimp only at hSw
      go_simp
    simp only [Act.put, List.getElem_toArray, List.getElem_cons_succ, List.getElem_cons_zero, List.setIfInBounds_toArray, List.set_cons_zero, List.set_cons_succ]
    refine wpAnyH_take (i := 3) (v := .map (some L.mb)) rfl (by kernel_rfl) (by kernel_rfl) (by kernel_rfl) (fun _ _ _ h => h) (Or.inl ⟨by rfl, fun w' hSw => ?_⟩) hHeld ?_
    · dsimp only at hSw
      go_simp
    simp only [Act.put, List.getElem_toArray, List.getElem_cons_succ, List.getElem_cons_zero, List.setIfInBounds_toArray, List.set_cons_zero, List.set_cons_succ]
    refine wpAnyH_take (i := 4) (v := .int .i64 (a : Nat)) rfl (by kernel_rfl) (by kernel_rfl) (by kernel_rfl) (fun _ _ _ h => h) (Or.inl ⟨by rfl, fun w' hSw => ?_⟩) hHeld ?_
    · dsimp only at hSw
      go_simp
    simp only [Act.put, List.getElem_toArray, List.getElem_cons_succ, List.getElem_cons_zero, List.setIfInBounds_toArray, List.set_cons_zero, List.set_cons_succ]
    refine wpAnyH_take (i := 5) (v := .int .i64 (i : Nat)) rfl (by kernel_rfl) (by kernel_rfl) (by kernel_rfl) (fun _ _ _ h => h) (Or.inl ⟨by rfl, fun w' hSw => ?_⟩) hHeld ?_
    · dsimp only at hSw
      go_simp
    simp only [Act.put, List.getElem_toArray, List.getElem_cons_succ, List.getElem_cons_zero, List.setIfInBounds_toArray, List.set_cons_zero, List.set_cons_succ]
    refine wpAnyH_take (i := 6) (v := .int .i64 ((a : Int) + (i : Int))) rfl (by kernel_rfl) (by kernel_rfl) (by kernel_rfl) (fun _ _ _ h => h) (Or.inl ⟨by rfl, fun w' hSw => ?_⟩) hHeld ?_
    · dsimp only at hSw
      go_simp
    simp only [Act.put, List.getElem_toArray, List.getElem_cons_succ, List.getElem_cons_zero, List.setIfInBounds_toArray, List.set_cons_zero, List.set_cons_succ]
    refine wpAnyH_take (i := 7) (v := .pointer (some ⟨L.b, 0, none⟩)) rfl (by kernel_rfl) (by kernel_rfl) (by kernel_rfl) (fun _ _ _ h => h) (Or.inl ⟨by rfl, fun w' hSw => ?_⟩) hHeld ?_
    · dsimp only at hSw
      go_simp
    simp only [Act.put, List.getElem_toArray, List.getElem_cons_succ, List.getElem_cons_zero, List.setIfInBounds_toArray, List.set_cons_zero, List.set_cons_succ]
    refine wpAnyH_take (i := 8) (v := .pointer (some ⟨L.b, 0, none⟩)) rfl (by kernel_rfl) (by kernel_rfl) (by kernel_rfl) (fun _ _ _ h => h) (Or.inl ⟨by rfl, fun w' hSw => ?_⟩) hHeld ?_
    · dsimp only at hSw
      go_simp
    simp only [Act.put, List.getElem_toArray, List.getElem_cons_succ, List.getElem_cons_zero, List.setIfInBounds_toArray, List.set_cons_zero, List.set_cons_succ]
    refine wpAnyH_take (i := 9) (v := .pointer (some ⟨L.b, 1, none⟩)) rfl (by kernel_rfl) (by kernel_rfl) (by kernel_rfl) (fun _ _ _ h => h) (Or.inl ⟨by rfl, fun w' hSw => ?_⟩) hHeld ?_
    · dsimp only at hSw
      go_simp
    simp only [Act.put, List.getElem_toArray, List.getElem_cons_succ, List.getElem_cons_zero, List.setIfInBounds_toArray, List.set_cons_zero, List.set_cons_succ]
    refine wpAnyH_take (i := 10) (v := .slice aw q cw) rfl (by kernel_rfl) (by kernel_rfl) (by kernel_rfl) (fun _ _ _ h => h) (Or.inl ⟨by rfl, fun w' hSw => ?_⟩) hHeld ?_
    · dsimp only at hSw
      go_simp
    simp only [Act.put, List.getElem_toArray, List.getElem_cons_succ, List.getElem_cons_zero, List.setIfInBounds_toArray, List.set_cons_zero, List.set_cons_succ]
    refine wpAnyH_take (i := 11) (v := .int .i64 (q : Nat)) rfl (by kernel_rfl) (by kernel_rfl) (by kernel_rfl) (fun _ _ _ h => h) (Or.inl ⟨by rfl, fun w' hSw => ?_⟩) hHeld ?_
    · dsimp only at hSw
      go_simp
    simp only [Act.put, List.getElem_toArray, List.getElem_cons_succ, List.getElem_cons_zero, List.setIfInBounds_toArray, List.set_cons_zero, List.set_cons_succ]
    refine wpAnyH_ready (rs := [12]) (by kernel_rfl) (by simp) ?_
    refine AllReadyH.cons rfl (fun KK hK => ?_) AllReadyH.nil
    simp only [List.getElem_toArray, List.getElem_cons_succ, List.getElem_cons_zero]
    rw [if_pos (by rfl)]
    refine wp_mapUpdate_own (.tmp 32) (.tmp 35) (.tmp 40) 55 (by rfl) 3 3 (Maps.int_keyed Tryd.underlying3) Tryd.underlying55 (plainElem Tryd.prog 3) L.mb q D (by rfl) HMAP.out (by unfold maxLen; omega) _ _ (.int .i64 ((a + i : Nat) : Int)) (by rfl) (by rfl) hkey (.lit (.int .i64 (q : Nat))) [] (plainElem_int Tryd.underlying3 (wf_nat q (by omega))) ?_
    intro W1 hown1 hg1
    have hs1 : W.heap.size ≤ W1.heap.size := hg1.size
    have hb1 : ∀ k, k < W.heap.size → k ≠ L.mb → W1.heap[k]? = W.heap[k]? := fun k hk e => hg1.block k hk (fun e' => e (Option.some.inj e'))
    have hlw : w.heap.size + 1 < W.heap.size := by omega
    have hS1 : (fun w' : World => w'.cell? ⟨w.heap.size, 0, none⟩ = some (.pointer (some ⟨L.b, 0, none⟩)) ∧ w'.cell? ⟨L.b, 2, none⟩ = some (.map (some L.mb)) ∧ w'.cell? ⟨w.heap.size + 1, 0, none⟩ = some (.int .i64 (a : Nat)) ∧ w'.cell? ⟨L.b, 1, none⟩ = some (.slice aw q cw)) W1 := ⟨(World.cell?_of_block (w := W) (a := ⟨w.heap.size, 0, none⟩) (hb1 w.heap.size (by omega) dne)).trans hS0.1, (World.cell?_of_block (w := W) (a := ⟨L.b, 2, none⟩) (hb1 L.b hbl bne)).trans hS0.2.1, (World.cell?_of_block (w := W) (a := ⟨w.heap.size + 1, 0, none⟩) (hb1 (w.heap.size + 1) hlw ane)).trans hS0.2.2.1, (World.cell?_of_block (w := W) (a := ⟨L.b, 1, none⟩) (hb1 L.b hbl bne)).trans hS0.2.2.2⟩
    have hx11 : W1.heap[Bx]? = some (.cells s.cells.toArray 70 (0, 0)) := (hb1 Bx hBxl (by omega)).trans HX.out
    have HW1 : Hid (W1.ownsMap Tryd.prog 3 (plainElem Tryd.prog 3) L.mb (q + 1) (D.put (.int .i64 ((a + i : Nat) : Int)) (.lit (.int .i64 (q : Nat)))) ∧ W.drew.grownBy W1 (some L.mb)) := ⟨hown1, hg1⟩
    have c11 := hS1.2.2.2
    have hS91 : (fun w' : World => w'.cell? ⟨w.heap.size, 0, none⟩ = some (.pointer (some ⟨L.b, 0, none⟩)) ∧ w'.cell? ⟨w.heap.size + 1, 0, none⟩ = some (.int .i64 (a : Nat)) ∧ w'.rangeAt Bx 0 s.cells) W1.drew := by
      refine ⟨hS1.1, hS1.2.2.1, fun j v hv => ?_⟩
      show W1.cell? ⟨Bx, 0 + j, none⟩ = some v
      rw [cell_of_row _ _ _ _ _ _ hx11, Nat.zero_add]; simpa using hv
    have hS92 : (fun w' : World => w'.cell? ⟨w.heap.size, 0, none⟩ = some (.pointer (some ⟨L.b, 0, none⟩)) ∧ w'.cell? ⟨w.heap.size + 1, 0, none⟩ = some (.int .i64 (a : Nat)) ∧ w'.rangeAt Bx 0 s.cells) (W1.drew.alloc (.cells (wrCells (a + i, s)).toArray 72)) := by
      refine ⟨?_, ?_, World.rangeAt_alloc hS91.2.2 _⟩
      · rw [World.cell?_alloc_lt _ _ _ (by show w.heap.size < W1.heap.size; omega)]; exact hS91.1
      · rw [World.cell?_alloc_lt _ _ _ (by show w.heap.size + 1 < W1.heap.size; omega)]; exact hS91.2.1
    have c12 : (W1.drew.alloc (.cells (wrCells (a + i, s)).toArray 72)).cell? ⟨L.b, 1, none⟩ = some (.slice aw q cw) := by
      rw [World.cell?_alloc_lt _ _ _ (by show L.b < W1.heap.size; omega)]; exact c11
    have hbl1 : L.b < W1.heap.size := by omega
    have c14 : (W1.alloc (.cells (wrCells (a + i, s)).toArray 72)).cell? ⟨L.b, 1, none⟩ = some (.slice aw q cw) := c12
    have HS91 : Hid ((fun w' : World => w'.cell? ⟨w.heap.size, 0, none⟩ = some (.pointer (some ⟨L.b, 0, none⟩)) ∧ w'.cell? ⟨w.heap.size + 1, 0, none⟩ = some (.int .i64 (a : Nat)) ∧ w'.rangeAt Bx 0 s.cells) W1.drew) := hS91
    have HS92 : Hid ((fun w' : World => w'.cell? ⟨w.heap.size, 0, none⟩ = some (.pointer (some ⟨L.b, 0, none⟩)) ∧ w'.cell? ⟨w.heap.size + 1, 0, none⟩ = some (.int .i64 (a : Nat)) ∧ w'.rangeAt Bx 0 s.cells) (W1.drew.alloc (.cells (wrCells (a + i, s)).toArray 72))) := hS92
    have HNEWS : Hid (∀ j u, (wrCells (a + i, s))[j]? = some u → (W1.drew.alloc (.cells (wrCells (a + i, s)).toArray 72)).cell? ((⟨W1.heap.size, 0, none⟩ : Addr).add j) = some u) := by
      intro j u hu
      rw [Addr.add_mid]
      exact wr_new W1.drew (a + i, s) 72 j u hu
    have HOW2 : Hid ((W1.drew.alloc (.cells (wrCells (a + i, s)).toArray 72)).ownsRow 0 72 129 (.slice aw q cw) q (flatW U.waits)) := by
      have h6 := HD.out.waits
      rw [hq] at h6
      refine ownsRow_same h6 (fun g hg => ?_)
      have hgl := HD.out.lt g (.inr (.inr (.inr hg)))
      exact (Below.heap_alloc W1.drew _ g (by show g < W1.heap.size; omega)).trans (hb1 g hgl (HD.out.ne4 g hg).2.2)
    have HFIN : Hid (∀ g cap3 W3, W3.ownsRow 0 72 129 (.slice (some ⟨g, 0, none⟩) (q + 1) cap3) (q + 1) (flatW U.waits ++ wrCells (a + i, s)) → (W1.drew.alloc (.cells (wrCells (a + i, s)).toArray 72)).grownBy W3 (Value.slice aw q cw).ownBlock → ((Value.slice aw q cw).ownBlock = some g ∨ g = W1.heap.size + 1) → g < W3.heap.size →
        (fun w' : World => w'.cell? ⟨w.heap.size, 0, none⟩ = some (.pointer (some ⟨L.b, 0, none⟩)) ∧ w'.cell? ⟨w.heap.size + 1, 0, none⟩ = some (.int .i64 (a : Nat)) ∧ w'.rangeAt Bx 0 s.cells) W3 ∧ W3.cell? ⟨L.b, 1, none⟩ = some (.slice aw q cw) ∧ W3.frozen? ⟨L.b, 1, none⟩ = false ∧
        ((fun w' : World => w'.cell? ⟨w.heap.size, 0, none⟩ = some (.pointer (some ⟨L.b, 0, none⟩)) ∧ w'.cell? ⟨w.heap.size + 1, 0, none⟩ = some (.int .i64 (a : Nat)) ∧ w'.rangeAt Bx 0 s.cells) (W3.setCell ⟨L.b, 1, none⟩ (.slice (some ⟨g, 0, none⟩) (q + 1) cap3)) ∧ (W3.setCell ⟨L.b, 1, none⟩ (.slice (some ⟨g, 0, none⟩) (q + 1) cap3)).cell? ⟨L.b, 3, none⟩ = some (.int .i64 (U.written : Nat)) ∧ (W3.setCell ⟨L.b, 1, none⟩ (.slice (some ⟨g, 0, none⟩) (q + 1) cap3)).frozen? ⟨L.b, 3, none⟩ = false ∧ (W3.setCell ⟨L.b, 1, none⟩ (.slice (some ⟨g, 0, none⟩) (q + 1) cap3)).cell? ⟨w.heap.size, 0, none⟩ = some (.pointer (some ⟨L.b, 0, none⟩)) ∧
          (KeepsFrom W0.heap.size W ((W3.setCell ⟨L.b, 1, none⟩ (.slice (some ⟨g, 0, none⟩) (q + 1) cap3)).setCell ⟨L.b, 3, none⟩ (.int .i64 ((U.written : Int) + 1))) ∧ KpS w2.heap.size bb W ((W3.setCell ⟨L.b, 1, none⟩ (.slice (some ⟨g, 0, none⟩) (q + 1) cap3)).setCell ⟨L.b, 3, none⟩ (.int .i64 ((U.written : Int) + 1))) ∧
            (∃ wv, IsDisk (fun k => (K k ∨ k = w.heap.size ∨ k = w.heap.size + 1) ∨ k = w2.heap.size) ((W3.setCell ⟨L.b, 1, none⟩ (.slice (some ⟨g, 0, none⟩) (q + 1) cap3)).setCell ⟨L.b, 3, none⟩ (.int .i64 ((U.written : Int) + 1))) { L with wv := wv } (wroteSt T a (valW (pre ++ [⟨(i, s), hix⟩])))) ∧
            Boxed ((W3.setCell ⟨L.b, 1, none⟩ (.slice (some ⟨g, 0, none⟩) (q + 1) cap3)).setCell ⟨L.b, 3, none⟩ (.int .i64 ((U.written : Int) + 1))) w.heap.size 24 (.pointer (some ⟨L.b, 0, none⟩)) ∧ Boxed ((W3.setCell ⟨L.b, 1, none⟩ (.slice (some ⟨g, 0, none⟩) (q + 1) cap3)).setCell ⟨L.b, 3, none⟩ (.int .i64 ((U.written : Int) + 1))) (w.heap.size + 1) 3 (.int .i64 (a : Nat)) ∧ Kept K w ((W3.setCell ⟨L.b, 1, none⟩ (.slice (some ⟨g, 0, none⟩) (q + 1) cap3)).setCell ⟨L.b, 3, none⟩ (.int .i64 ((U.written : Int) + 1))) ∧ W0.heap.size ≤ ((W3.setCell ⟨L.b, 1, none⟩ (.slice (some ⟨g, 0, none⟩) (q + 1) cap3)).setCell ⟨L.b, 3, none⟩ (.int .i64 ((U.written : Int) + 1))).heap.size))) := by
      intro g cap3 W3 hown3 hg3 hat3 hlt3
      obtain ⟨f1, f2, f3, f4⟩ := wrote_end HD.out hq (a + i) s hxn q1 w1' _ HW1.out.1 HL2.out HW1.out.2 g cap3 hown3 hg3 hat3 hlt3
      have hbd3 : Boxed W3 w.heap.size 24 (.pointer (some ⟨L.b, 0, none⟩)) := (f2.block _ (.inl (.inr (.inl rfl)))).trans HBX2.out.1
      have hba3 : Boxed W3 (w.heap.size + 1) 3 (.int .i64 (a : Nat)) := (f2.block _ (.inl (.inr (.inr rfl)))).trans HBX2.out.2.1
      have hbx3 : W3.heap[Bx]? = some (.cells s.cells.toArray 70 (0, 0)) := (f3 Bx hBxl (by omega) (by omega) hBxw).trans HX.out
      have n1 := Head.set1 f1 (.slice (some ⟨g, 0, none⟩) (q + 1) cap3)
      have oth : ∀ k, k ≠ L.b → ((W3.setCell ⟨L.b, 1, none⟩ (.slice (some ⟨g, 0, none⟩) (q + 1) cap3)).setCell ⟨L.b, 3, none⟩ (.int .i64 ((U.written : Int) + 1))).heap[k]? = W3.heap[k]? := fun k hk => (Below.heap_setCell _ _ _ k hk).trans (Below.heap_setCell _ _ _ k hk)
      have hnK := HD.out.nK L.b (.inl rfl)
      have k5 : Kept (fun k => (K k ∨ k = w.heap.size ∨ k = w.heap.size + 1) ∨ k = w2.heap.size) W ((W3.setCell ⟨L.b, 1, none⟩ (.slice (some ⟨g, 0, none⟩) (q + 1) cap3)).setCell ⟨L.b, 3, none⟩ (.int .i64 ((U.written : Int) + 1))) := (f2.setCell (p := ⟨L.b, 1, none⟩) hnK _).setCell (p := ⟨L.b, 3, none⟩) hnK _
      have rg : ∀ j v, s.cells[j]? = some v → W3.cell? ⟨Bx, 0 + j, none⟩ = some v := fun j v hv => by
        rw [cell_of_row _ _ _ _ _ _ hbx3, Nat.zero_add]; simpa using hv
      refine ⟨⟨hbd3.cell, hba3.cell, rg⟩, f1.cell.2.1, f1.frozen 1, ⟨⟨?_, ?_, fun j v hv => ?_⟩, n1.cell.2.2.2.1, n1.frozen 3, ?_, ⟨?_, k5.mono (fun k hk => ?_), ⟨.slice (some ⟨g, 0, none⟩) (q + 1) cap3, ?_⟩, ?_, ?_, HBX2.out.2.2.trans (k5.mono (fun k hk => .inl (.inl hk))), Nat.le_trans hle k5.size⟩⟩⟩
      · exact (World.cell?_of_block (w := W3) (a := ⟨w.heap.size, 0, none⟩) (Below.heap_setCell W3 ⟨L.b, 1, none⟩ _ w.heap.size dne2)).trans hbd3.cell
      · exact (World.cell?_of_block (w := W3) (a := ⟨w.heap.size + 1, 0, none⟩) (Below.heap_setCell W3 ⟨L.b, 1, none⟩ _ (w.heap.size + 1) ane2)).trans hba3.cell
      · exact (World.cell?_of_block (w := W3) (a := ⟨Bx, 0 + j, none⟩) (Below.heap_setCell W3 ⟨L.b, 1, none⟩ _ Bx (by show Bx ≠ L.b; omega))).trans (rg j v hv)
      · exact (World.cell?_of_block (w := W3) (a := ⟨w.heap.size, 0, none⟩) (Below.heap_setCell W3 ⟨L.b, 1, none⟩ _ w.heap.size dne2)).trans hbd3.cell
      · refine ⟨k5.size, fun k o hk ho hc => ?_⟩
        have hkl := (Array.getElem?_eq_some_iff.1 ho).1
        refine (oth k (by omega)).trans ((f3 k hkl (by omega) (by omega) (fun e => ?_)).trans ho)
        rcases HD.out.waits.2 with ⟨e1, _⟩ | ⟨g', cap', cur, e1, _, hh, _⟩
        · simp only at e1
          rw [e1] at e; cases e
        · simp only at e1
          rw [e1] at e
          obtain rfl : g' = k := by simpa [Value.ownBlock] using e
          rw [hh] at ho; cases ho; cases hc
      · rcases hk with rfl | rfl
        · exact .inr rfl
        · exact .inl (.inl hKbb)
      · rw [valW_snoc, HUE.out]; exact f4
      · exact (oth _ dne2).trans hbd3
      · exact (oth _ ane2).trans hba3
    clear hown1 hg1 hb1 hx11 hS91 hS92 hS0
    simp only [Act.put]
    refine hK.out _ _ hS1 (fun _ => ?_)
    refine wpAnyH_done (by kernel_rfl) ?_ _
    clear hHeld hK hS1
    gi_wp2
    refine wpIn_round_held (S := fun w' : World => w'.cell? ⟨w.heap.size, 0, none⟩ = some (.pointer (some ⟨L.b, 0, none⟩)) ∧ w'.cell? ⟨w.heap.size + 1, 0, none⟩ = some (.int .i64 (a : Nat)) ∧ w'.rangeAt Bx 0 s.cells) (by kernel_rfl) (by kernel_rfl) (fun ⟨_, _, h⟩ => h) HS91.out (fun hHeld => ?_)
    refine wpAnyH_take (i := 0) (v := .pointer (some ⟨L.b, 0, none⟩)) rfl (by kernel_rfl) (by kernel_rfl) (by kernel_rfl) (fun _ _ _ h => h) (Or.inl ⟨by rfl, fun w' hSw => ?_⟩) hHeld ?_
    · dsimp only at hSw
      go_simp
    simp only [Act.put, List.getElem_toArray, List.getElem_cons_zero, List.setIfInBounds_toArray, List.set_cons_zero, List.set_cons_succ]
    refine wpAnyH_take (i := 1) (v := .pointer (some ⟨L.b, 0, none⟩)) rfl (by kernel_rfl) (by kernel_rfl) (by kernel_rfl) (fun _ _ _ h => h) (Or.inl ⟨by rfl, fun w' hSw => ?_⟩) hHeld ?_
    · dsimp only at hSw
      go_simp
    simp only [Act.put, List.getElem_toArray, List.getElem_cons_succ, List.getElem_cons_zero, List.setIfInBounds_toArray, List.set_cons_zero, List.set_cons_succ]
    refine wpAnyH_take (i := 2) (v := .pointer (some ⟨L.b, 0, none⟩)) rfl (by kernel_rfl) (by kernel_rfl) (by kernel_rfl) (fun _ _ _ h => h) (Or.inl ⟨by rfl, fun w' hSw => ?_⟩) hHeld ?_
    · dsimp only at hSw
      go_simp
    simp only [Act.put, List.getElem_toArray, List.getElem_cons_succ, List.getElem_cons_zero, List.setIfInBounds_toArray, List.set_cons_zero, List.set_cons_succ]
    refine wpAnyH_take (i := 3) (v := .pointer (some ⟨L.b, 1, none⟩)) rfl (by kernel_rfl) (by kernel_rfl) (by kernel_rfl) (fun _ _ _ h => h) (Or.inl ⟨by rfl, fun w' hSw => ?_⟩) hHeld ?_
    · dsimp only at hSw
      go_simp
    simp only [Act.put, List.getElem_toArray, List.getElem_cons_succ, List.getElem_cons_zero, List.setIfInBounds_toArray, List.set_cons_zero, List.set_cons_succ]
    refine wpAnyH_take (i := 5) (v := .int .i64 (a : Nat)) rfl (by kernel_rfl) (by kernel_rfl) (by kernel_rfl) (fun _ _ _ h => h) (Or.inl ⟨by rfl, fun w' hSw => ?_⟩) hHeld ?_
    · dsimp only at hSw
      go_simp
    simp only [Act.put, List.getElem_toArray, List.getElem_cons_succ, List.getElem_cons_zero, List.setIfInBounds_toArray, List.set_cons_zero, List.set_cons_succ]
    refine wpAnyH_take (i := 6) (v := .int .i64 (i : Nat)) rfl (by kernel_rfl) (by kernel_rfl) (by kernel_rfl) (fun _ _ _ h => h) (Or.inl ⟨by rfl, fun w' hSw => ?_⟩) hHeld ?_
    · dsimp only at hSw
      go_simp
    simp only [Act.put, List.getElem_toArray, List.getElem_cons_succ, List.getElem_cons_zero, List.setIfInBounds_toArray, List.set_cons_zero, List.set_cons_succ]
    refine wpAnyH_take (i := 7) (v := .int .i64 ((a : Int) + (i : Int))) rfl (by kernel_rfl) (by kernel_rfl) (by kernel_rfl) (fun _ _ _ h => h) (Or.inl ⟨by rfl, fun w' hSw => ?_⟩) hHeld ?_
    · dsimp only at hSw
      go_simp
    simp only [Act.put, List.getElem_toArray, List.getElem_cons_succ, List.getElem_cons_zero, List.setIfInBounds_toArray, List.set_cons_zero, List.set_cons_succ]
    refine wpAnyH_take (i := 8) (v := .agg s.cells.toArray) rfl (by kernel_rfl) (by kernel_rfl) (by kernel_rfl) (fun _ _ _ h => h) (yieldsIf_load_mid (by rfl) 70 _ rfl Bx 0 (by rfl) s.cells _ (fun w' h => h.2.2) Tryd.underlying70 rfl (by rw [Sec.cells_length]; exact Tryd.sizeSec)) hHeld ?_
    simp only [Act.put, List.getElem_toArray, List.getElem_cons_succ, List.getElem_cons_zero, List.setIfInBounds_toArray, List.set_cons_zero, List.set_cons_succ]
    refine wpAnyH_take (i := 9) (v := .agg (wrCells (a + i, s)).toArray) rfl (by kernel_rfl) (by kernel_rfl) (by kernel_rfl) (fun _ _ _ h => h) (yieldsIf_build (by rfl) 72 _ rfl #[(0, .int .i64 ((a : Int) + (i : Int))), (1, .agg s.cells.toArray)] (by simp only [List.map_toArray, List.map_cons, List.map_nil]; rfl) _ (fun w' => by have := run_build_wr w' (a + i) s; rwa [Int.natCast_add] at this)) hHeld ?_
    simp only [Act.put, List.getElem_toArray, List.getElem_cons_succ, List.getElem_cons_zero, List.setIfInBounds_toArray, List.set_cons_zero, List.set_cons_succ]
    refine wpAnyH_ready (rs := [4, 10]) (by kernel_rfl) (by simp) ?_
    refine AllReadyH.cons rfl (fun KK hK => ?_) (AllReadyH.cons rfl (fun KK hK => ?_) AllReadyH.nil)
    · simp only [List.getElem_toArray, List.getElem_cons_succ, List.getElem_cons_zero]
      rw [if_pos (by rfl)]
      go_simp
      refine hK.out _ _ HS91.out (fun _ => ?_)
      refine wpAnyH_ready (rs := [10]) (by kernel_rfl) (by simp) ?_
      refine AllReadyH.cons rfl (fun KK hK => ?_) AllReadyH.nil
      simp only [List.getElem_toArray, List.getElem_cons_succ, List.getElem_cons_zero]
      rw [if_pos (by rfl)]
      refine wp_buildSlice 56 72 1 _ (by rfl) (wrCells (a + i, s)).toArray i0 _ Tryd.underlying56 hi hz0 (by rw [hz1]; decide) (by rw [hz1]; decide) (by rw [hz1]; simp only [List.map_toArray, List.map_cons, List.map_nil]; exact fill_one _ (range_size _) (a + i, s)) ?_
      simp only [Act.put, List.setIfInBounds_toArray, List.set_cons_zero, List.set_cons_succ]
      refine hK.out _ _ HS92.out (fun _ => ?_)
      -- append
      refine wpAnyH_ready (rs := [11]) (by kernel_rfl) (by simp) ?_
      refine AllReadyH.cons rfl (fun KK hK => ?_) AllReadyH.nil
      simp only [List.getElem_toArray, List.getElem_cons_succ, List.getElem_cons_zero]
      rw [if_pos (by rfl)]
      refine wp_append_lies _ (.tmp 45) (.tmp 51) 56 (by rfl) 0 72 i0 _ 129 136 Tryd.underlying56 hi hz0 hz1 hz2 (by simp [Value.cells]) (by decide) (.slice aw q cw) q (flatW U.waits) (by rfl) HOW2.out ⟨W1.heap.size, 0, none⟩ 1 1 (wrCells (a + i, s)) (by rfl) (by rw [wrCells_length]) HNEWS.out (wrCells_one _) (by decide) (by unfold maxLen; omega) (by omega) (Nat.zero_le _) (W1.heap.size + 1) (by show (W1.alloc _).heap.size = _; simp) ?_
      intro g cap3 W3 hown3 hg3 hat3 hlt3
      obtain ⟨hS3, c13, f13, hF3⟩ := HFIN.out g cap3 W3 hown3 hg3 hat3 hlt3
      have HF3 : Hid _ := hF3
      clear hown3 hg3 hat3 hlt3 hF3
      simp only [Act.put, List.setIfInBounds_toArray, List.set_cons_zero, List.set_cons_succ]
      refine hK.out _ _ hS3 (fun hHeld => ?_)
      refine wpAnyH_take (i := 12) (v := .pointer (some ⟨L.b, 0, none⟩)) rfl (by kernel_rfl) (by kernel_rfl) (by kernel_rfl) (fun _ _ _ h => h) (Or.inl ⟨by rfl, fun w' hSw => ?_⟩) hHeld ?_
      · dsimp only at hSw
        go_simp
      simp only [Act.put, List.getElem_toArray, List.getElem_cons_succ, List.getElem_cons_zero, List.setIfInBounds_toArray, List.set_cons_zero, List.set_cons_succ]
      refine wpAnyH_take (i := 13) (v := .pointer (some ⟨L.b, 1, none⟩)) rfl (by kernel_rfl) (by kernel_rfl) (by kernel_rfl) (fun _ _ _ h => h) (Or.inl ⟨by rfl, fun w' hSw => ?_⟩) hHeld ?_
      · dsimp only at hSw
        go_simp
      simp only [Act.put, List.getElem_toArray, List.getElem_cons_succ, List.getElem_cons_zero, List.setIfInBounds_toArray, List.set_cons_zero, List.set_cons_succ]
      refine wpAnyH_ready (rs := [14]) (by kernel_rfl) (by simp) ?_
      refine AllReadyH.cons rfl (fun KK hK => ?_) AllReadyH.nil
      simp only [List.getElem_toArray, List.getElem_cons_succ, List.getElem_cons_zero]
      rw [if_pos (by rfl)]
      go_simp
      refine hK.out _ _ HF3.out.1 (fun _ => ?_)
      refine wpAnyH_done (by kernel_rfl) ?_ _
      have c43 := HF3.out.2.1
      have f43 := HF3.out.2.2.1
      have d43 := HF3.out.2.2.2.1
      have HEND : Hid _ := HF3.out.2.2.2.2
      clear HF3
      gi_wp2
      exact HEND.out
    · simp only [List.getElem_toArray, List.getElem_cons_succ, List.getElem_cons_zero]
      rw [if_pos (by rfl)]
      refine wp_buildSlice 56 72 1 _ (by rfl) (wrCells (a + i, s)).toArray i0 _ Tryd.underlying56 hi hz0 (by rw [hz1]; decide) (by rw [hz1]; decide) (by rw [hz1]; simp only [List.map_toArray, List.map_cons, List.map_nil]; exact fill_one _ (range_size _) (a + i, s)) ?_
      simp only [Act.put, List.setIfInBounds_toArray, List.set_cons_zero, List.set_cons_succ]
      refine hK.out _ _ HS92.out (fun _ => ?_)
      -- the slice's head is read
      refine wpAnyH_ready (rs := [4]) (by kernel_rfl) (by simp) ?_
      refine AllReadyH.cons rfl (fun KK hK => ?_) AllReadyH.nil
      simp only [List.getElem_toArray, List.getElem_cons_succ, List.getElem_cons_zero]
      rw [if_pos (by rfl)]
      go_simp
      refine hK.out _ _ HS92.out (fun _ => ?_)
      -- append
      refine wpAnyH_ready (rs := [11]) (by kernel_rfl) (by simp) ?_
      refine AllReadyH.cons rfl (fun KK hK => ?_) AllReadyH.nil
      simp only [List.getElem_toArray, List.getElem_cons_succ, List.getElem_cons_zero]
      rw [if_pos (by rfl)]
      refine wp_append_lies _ (.tmp 45) (.tmp 51) 56 (by rfl) 0 72 i0 _ 129 136 Tryd.underlying56 hi hz0 hz1 hz2 (by simp [Value.cells]) (by decide) (.slice aw q cw) q (flatW U.waits) (by rfl) HOW2.out ⟨W1.heap.size, 0, none⟩ 1 1 (wrCells (a + i, s)) (by rfl) (by rw [wrCells_length]) HNEWS.out (wrCells_one _) (by decide) (by unfold maxLen; omega) (by omega) (Nat.zero_le _) (W1.heap.size + 1) (by show (W1.alloc _).heap.size = _; simp) ?_
      intro g cap3 W3 hown3 hg3 hat3 hlt3
      obtain ⟨hS3, c13, f13, hF3⟩ := HFIN.out g cap3 W3 hown3 hg3 hat3 hlt3
      have HF3 : Hid _ := hF3
      clear hown3 hg3 hat3 hlt3 hF3
      simp only [Act.put, List.setIfInBounds_toArray, List.set_cons_zero, List.set_cons_succ]
      refine hK.out _ _ hS3 (fun hHeld => ?_)
      refine wpAnyH_take (i := 12) (v := .pointer (some ⟨L.b, 0, none⟩)) rfl (by kernel_rfl) (by kernel_rfl) (by kernel_rfl) (fun _ _ _ h => h) (Or.inl ⟨by rfl, fun w' hSw => ?_⟩) hHeld ?_
      · dsimp only at hSw
        go_simp
      simp only [Act.put, List.getElem_toArray, List.getElem_cons_succ, List.getElem_cons_zero, List.setIfInBounds_toArray, List.set_cons_zero, List.set_cons_succ]
      refine wpAnyH_take (i := 13) (v := .pointer (some ⟨L.b, 1, none⟩)) rfl (by kernel_rfl) (by kernel_rfl) (by kernel_rfl) (fun _ _ _ h => h) (Or.inl ⟨by rfl, fun w' hSw => ?_⟩) hHeld ?_
      · dsimp only at hSw
        go_simp
      simp only [Act.put, List.getElem_toArray, List.getElem_cons_succ, List.getElem_cons_zero, List.setIfInBounds_toArray, List.set_cons_zero, List.set_cons_succ]
      refine wpAnyH_ready (rs := [14]) (by kernel_rfl) (by simp) ?_
      refine AllReadyH.cons rfl (fun KK hK => ?_) AllReadyH.nil
      simp only [List.getElem_toArray, List.getElem_cons_succ, List.getElem_cons_zero]
      rw [if_pos (by rfl)]
      go_simp
      refine hK.out _ _ HF3.out.1 (fun _ => ?_)
      refine wpAnyH_done (by kernel_rfl) ?_ _
      have c43 := HF3.out.2.1
      have f43 := HF3.out.2.2.1
      have d43 := HF3.out.2.2.2.1
      have HEND : Hid _ := HF3.out.2.2.2.2
      clear HF3
      gi_wp2
      exact HEND.out
  case done =>
    rintro D ys W hDl rfl ⟨⟨wv, hD⟩, hBd1, hBa1, hK1, hle⟩ hKd
    have HD5 : Hid ((∃ wv, IsDisk K (W.putObj D (.deferred none)) { L with wv := wv } (wroteSt S.spent a (valW (xsTo zs m m)))) ∧ Kept K w (W.putObj D (.deferred none))) := by
      rw [HT.out]
      refine ⟨⟨wv, ((hD.own (grownBy_putObj' W D _) (B0 := W0.heap.size) (fun r e => by cases e; exact ⟨hDl, _, hKd, rfl⟩) hmb).less (fun k hk => .inl (.inl hk)))⟩, hK1.grown (grownBy_putObj' W D _) (fun k hk => by have := HKL.out k hk; exact ⟨by omega, fun e => by cases e; omega⟩)⟩
    clear hD hBd1 hBa1 hK1
    go_wp2
    refine ⟨by simp, .inl ⟨_, _, rfl, run_takeDeferred hKd, ?_⟩⟩
    exact ⟨_, results_tmp rfl _ _ _, rfl, HD5.out.1, HD5.out.2⟩
  case stop =>
    rintro D c pre W _ _ h _
    exact h.elim
end Go.Proofs.YthhdkadjlddmkaaDoor
