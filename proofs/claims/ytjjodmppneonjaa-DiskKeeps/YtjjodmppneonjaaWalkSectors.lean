/- The contract of the iterator 'sectors': each sector of some octets, counted from 0 on. -/
import Derived.Test.YtjjodmppneonjaaWalkCrash
import Derived.RangeFuncNested
import Derived.RangeFuncBound
import Derived.RangeFuncCalls
import Derived.RangeFuncLeaves
import Derived.Shelf.Abstract
import Derived.OwnWalkIn
import Derived.TacticsInMore
import Derived.LoopNIn
import Derived.LoopIn
namespace Go.Proofs.Ytjjodmppneonjaa
open Go.RowKit Go.Shelf
set_option linter.unusedVariables false
attribute [local go_sem] Oper.semAt_some

/-- A whole variable out of the midst of a block, inside a fence. -/
theorem wpListIn_load_mid {F : Fence} {nF : Nat} {P : Program} {ops : Array Oper} {rest : List Oper} {op : Oper} {a : Act} {w : World} {Q : Exit → Act → World → Prop} (hgd : op.guard = none) (ty : TypeId) (x : Operand) (ho : op.op = .load ty x)
    (b o : Nat) (hx : a.eval x = .pointer (some ⟨b, o, none⟩)) (cs : List Value) (d : TypeDesc) (hc : w.rangeAt b o cs)
    (hu : P.underlying ty = some d) (hd : d.isRow = true) (hi : (P.info? ty).map (·.size) = some cs.length)
    (h : wpListIn F nF P ops Q rest (a.put op.dst (.agg cs.toArray)) w) : wpListIn F nF P ops Q (op :: rest) a w := by
  refine wpListIn_plain hgd fun K' hK' => ?_
  unfold Oper.wpIn
  refine ⟨by simp [Oper.about, ho], ?_⟩
  rw [Oper.semAt_plain F _ _ (by rw [ho]; intro c hc'; cases hc')]
  unfold execOp
  simp only [ho, hx, Instr.loadAt, Instr.sureAddr, Sem.run_bind, Sem.run_pure, Result.andThen_ok, run_loadVar_mid w b o ty cs d hc hu hd hi]
  exact hK' _ _ h

/-! ### The sectors of octets -/
def Octets (zs : List Nat) : Prop := ∀ z ∈ zs, z < 256
def secAt (zs : List Nat) (i : Nat) : Sec :=
  if h : 128 * i + 128 ≤ zs.length ∧ zs.all (fun z => decide (z < 256)) = true then ⟨(zs.drop (128 * i)).take 128, by rw [List.length_take, List.length_drop]; omega, fun x hx => of_decide_eq_true (List.all_eq_true.1 h.2 x (List.mem_of_mem_drop (List.mem_of_mem_take hx)))⟩ else Sec.zero
theorem secAt_l {zs : List Nat} {i : Nat} (h : 128 * i + 128 ≤ zs.length) (ho : Octets zs) : (secAt zs i).l = (zs.drop (128 * i)).take 128 := by
  unfold secAt; rw [dif_pos ⟨h, List.all_eq_true.2 fun z hz => decide_eq_true (ho z hz)⟩]
/-- What a round is handed: a number below m, and a sector. -/
abbrev Al (m : Nat) : Type := { p : Nat × Sec // p.1 < m }
abbrev alEnc {m : Nat} (x : Al m) : Array Value := #[.int .i64 (x.1.1 : Nat), .agg x.1.2.cells.toArray]
def xsTo (zs : List Nat) (m k : Nat) : List (Al m) := (List.range k).filterMap fun i => if h : i < m then some ⟨(i, secAt zs i), h⟩ else none
theorem xsTo_succ (zs : List Nat) {m k : Nat} (h : k < m) : xsTo zs m (k + 1) = xsTo zs m k ++ [⟨(k, secAt zs k), h⟩] := by
  simp [xsTo, List.range_succ, h]
theorem xsTo_length (zs : List Nat) (m : Nat) : ∀ k, k ≤ m → (xsTo zs m k).length = k
  | 0, _ => rfl
  | k + 1, h => by rw [xsTo_succ zs (by omega), List.length_append, xsTo_length zs m k (by omega)]; rfl

theorem oct_cells {w : World} {b off : Nat} {zs : List Nat} (h : OctAt w b off zs) (ho : Octets zs) {k : Nat} (hk : 128 * k + 128 ≤ zs.length) : w.rangeAt b (off + 128 * k) (secAt zs k).cells := fun j v hv => by
  have hj : j < 128 := by have := (List.getElem?_eq_some_iff.1 hv).1; rwa [Sec.cells_length] at this
  have := h (128 * k + j) (by omega)
  rw [show off + 128 * k + j = off + (128 * k + j) by omega, this, ← hv]
  have hlt : 128 * k + j < zs.length := by omega
  simp [Sec.cells, u8s, secAt_l hk ho, List.getElem?_take_of_lt hj, List.getElem?_drop, List.getElem?_eq_getElem hlt]

theorem grown_box (wr : World) (c : Array Value) (t : TypeId) (cs : List Value) : wr.grownBy ((wr.alloc (.cells c t)).drew.setCells wr.heap.size 0 cs) none := by
  obtain ⟨o1, o2, o3⟩ := os_setCells wr.heap.size cs 0 (wr.alloc (.cells c t)).drew
  refine ⟨o1, o2, o3, ?_, ?_⟩
  · rw [size_setCells]; show wr.heap.size ≤ (wr.alloc (.cells c t)).heap.size; simp
  · intro k hk _
    rw [heap_setCells _ _ _ _ _ (by omega)]
    exact Below.heap_alloc wr _ k hk

set_option maxRecDepth 100000 in
set_option maxHeartbeats 1000000 in
theorem sectors1_in (n l Bs bb off cap m : Nat) (zs : List Nat) (hn : 1 ≤ n) (hl : zs.length = 128 * m) (hm : m ≤ 1000000000) (hcap : zs.length ≤ cap) (ho : Octets zs) (J Jx : List (Al m) → World → Prop) (Kp : World → World → Prop)
    (hKc : ∀ A B, Kp A B → B.heap[Bs]? = A.heap[Bs]? ∧ B.heap[bb]? = A.heap[bb]? ∧ A.heap.size ≤ B.heap.size) (W : World) (hJ : AbidesFrom W.heap.size J)
    (hY : ∀ pre x W1, J pre W1 → pre.length < m → YieldAt Fence.wide (n - 1) Try.prog l (alEnc x) W1 fun e W' =>
      (e = .returned (.bool true) ∧ J (pre ++ [x]) W' ∧ Kp W1 W') ∨ (e = .returned (.bool false) ∧ Jx (pre ++ [x]) W'))
    (hBs : W.cell? ⟨Bs, 0, none⟩ = some (.slice (some ⟨bb, off, none⟩) (128 * m) cap)) (hbs : Bs < W.heap.size) (hbb : bb < W.heap.size) (hc : OctAt W bb off zs) (h0 : J [] W) :
    CallsIn Fence.wide n Try.prog 27 #[.func (.yield l) #[] #[], .pointer (some ⟨Bs, 0, none⟩)] W fun e W' => (∃ v, e = .returned v) ∧
      ((∃ ys, ys = xsTo zs m m ∧ J ys W') ∨ (∃ pre, True ∧ Jx pre W')) := by
  have HY : Hid (∀ pre x W1, J pre W1 → pre.length < m → YieldAt Fence.wide (n - 1) Try.prog l (alEnc x) W1 fun e W' =>
      (e = .returned (.bool true) ∧ J (pre ++ [x]) W' ∧ Kp W1 W') ∨ (e = .returned (.bool false) ∧ Jx (pre ++ [x]) W')) := hY
  have HC : Hid (OctAt W bb off zs) := hc
  have HKC : Hid (∀ A B, Kp A B → B.heap[Bs]? = A.heap[Bs]? ∧ B.heap[bb]? = A.heap[bb]? ∧ A.heap.size ≤ B.heap.size) := hKc
  have HJ : Hid (AbidesFrom W.heap.size J) := hJ
  have HH0 : Hid (J [] W) := h0
  clear hY hc hKc hJ h0
  have hz54 := Try.zeroSec
  have e1 : ((128 * m : Nat) : Int) / 128 = (m : Nat) := by omega
  refine callsIn_of_wp Try.func27 rfl trivial ?_ rfl
  simp only [Try.ntmps27, List.size_toArray, List.length_cons, List.length_nil, Nat.reduceAdd, Nat.reduceSub, Array.replicate_succ, Array.replicate_zero, List.push_toArray, List.append_toArray, List.nil_append, List.cons_append]
  gi_wp2
  gi_loopw [8] (fun i wr => ∃ k : Nat, k ≤ m ∧ i = .int .i64 k ∧ J (xsTo zs m k) wr ∧ wr.heap[Bs]? = W.heap[Bs]? ∧ wr.heap[bb]? = W.heap[bb]? ∧ W.heap.size ≤ wr.heap.size) (fun i _ => m - (intOf i).toNat)
  case atStart => exact ⟨0, Nat.zero_le _, rfl, HH0.out, rfl, rfl, Nat.le_refl _⟩
  case round =>
    obtain ⟨k, hk, rfl, hJs, hk1, hk2, hk3⟩ := hrel
    have HJS : Hid (J (xsTo zs m k) wr) := hJs
    have HK12 : Hid (wr.heap[Bs]? = W.heap[Bs]? ∧ wr.heap[bb]? = W.heap[bb]?) := ⟨hk1, hk2⟩
    by_cases hlt : k < m
    · have hB' : wr.cell? ⟨Bs, 0, none⟩ = some (.slice (some ⟨bb, off, none⟩) (128 * m) cap) := (World.cell?_of_block (w := W) (a := ⟨Bs, 0, none⟩) hk1).trans hBs
      obtain ⟨s, hs⟩ : ∃ s, s = secAt zs k := ⟨_, rfl⟩
      have hr1 : wr.rangeAt bb (off + 128 * k) s.cells := by
        rw [hs]
        refine oct_cells (fun j hj => ?_) ho (by omega)
        exact (World.cell?_of_block (w := W) (a := ⟨bb, off + j, none⟩) hk2).trans (HC.out j hj)
      obtain ⟨Z, hZ⟩ : ∃ Z, Z = (Array.replicate 128 (Value.int .u8 0)) := ⟨_, rfl⟩
      have hZs : Z.size = 128 := by rw [hZ]; simp
      rw [← hZ] at hz54
      clear hZ
      have hth : (wr.alloc (.cells Z 54)).drew.there wr.heap.size 0 s.cells.length := fun j hj => by
        rw [Sec.cells_length] at hj
        show ((wr.alloc (.cells Z 54)).cell? ⟨wr.heap.size, 0 + j, none⟩).isSome = true ∧ (wr.alloc (.cells Z 54)).frozen? _ = false
        rw [cell_of_row _ _ _ _ _ _ (heap_alloc_last wr _)]
        refine ⟨by simp [hZs]; omega, ?_⟩
        have hb := heap_alloc_last wr (.cells Z 54)
        unfold World.frozen?
        simp only [hb]
        simp
      have HTH : Hid ((wr.alloc (.cells Z 54)).drew.there wr.heap.size 0 s.cells.length) := hth
      have HSRC : Hid (∀ j v, s.cells[j]? = some v → (wr.alloc (.cells Z 54)).drew.cell? ((⟨bb, off + k * 128, none⟩ : Addr).add j) = some v) := by
        intro j v hv
        rw [Addr.add_mid, Nat.mul_comm k 128]
        exact (World.rangeAt_alloc hr1 _) j v hv
      have HO1 : Hid (∀ v ∈ s.cells, v.oneCell' = true) := s.cells_one
      have hbs' : Bs < wr.heap.size := by omega
      have HS0 : Hid ((wr.alloc (.cells Z 54)).cell? ⟨Bs, 0, none⟩ = some (.slice (some ⟨bb, off, none⟩) (128 * m) cap)) := by
        show _ = _
        rw [World.cell?_alloc_lt _ _ _ hbs']; exact hB'
      have HS1 : Hid (((wr.alloc (.cells Z 54)).drew.setCells wr.heap.size 0 s.cells).cell? ⟨Bs, 0, none⟩ = some (.slice (some ⟨bb, off, none⟩) (128 * m) cap)) := by
        show _ = _
        rw [World.cell?_setCells_out _ _ _ _ _ (fun e => by simp only at e; omega)]; exact HS0.out
      have HRG : Hid (((wr.alloc (.cells Z 54)).drew.setCells wr.heap.size 0 s.cells).rangeAt wr.heap.size 0 s.cells) := World.rangeAt_setCells_same _ _ _ _ hth
      have hJ2 : J (xsTo zs m k) ((wr.alloc (.cells Z 54)).drew.setCells wr.heap.size 0 s.cells) := HJ.out _ _ _ none hJs (grown_box _ _ _ _) (fun r e => by cases e)
      obtain ⟨fn, tmps, assign, body, hy, hR⟩ := HY.out _ ⟨(k, s), hlt⟩ _ hJ2 (by rw [xsTo_length zs m k hk]; exact hlt)
      dsimp only [alEnc] at hy
      have HR : Hid _ := hR
      have HXS : Hid (xsTo zs m (k + 1) = xsTo zs m k ++ [⟨(k, s), hlt⟩]) := by rw [xsTo_succ zs hlt, hs]; rfl
      have i1 : (0 : Int) ≤ (k : Int) * 128 := by omega
      have i2 : (k : Int) * 128 ≤ ((128 * m : Nat) : Int) := by omega
      have i3 : ((128 * m : Nat) : Int) ≤ (cap : Int) := by omega
      have i4 : ¬ cap = k * 128 := by omega
      have i5 : ((k : Int) * 128).toNat = k * 128 := by omega
      have i6 : (k : Int) * 128 ≤ 128 * (m : Int) := by omega
      have i7 : ¬ cap - k * 128 = 0 := by omega
      have i8 : ¬ (128 * (m : Int) < (k : Int) * 128) := by omega
      have i9 : ¬ (k : Int) * 128 < 0 := by omega
      have e2 : IntKind.i64.wrap ((k : Int) * 128) = (k : Int) * 128 := by rw [IntKind.wrap_i64]; omega
      clear hJs hk1 hk2 hr1 hth hJ2 hs hR
      gi_wp2
      refine wpIn_wide.2 ?_
      go_region_held3 (fun w' => w'.cell? ⟨Bs, 0, none⟩ = some (.slice (some ⟨bb, off, none⟩) (128 * m) cap)) (first | exact HS0.out | exact HS1.out) ((refine step_copy_mid (by rfl) _ _ 22 22 (by rfl) 5 Try.underlying22 Try.sizeU8 wr.heap.size 0 128 128 ⟨bb, off + k * 128, none⟩ _ _ (by rfl) (by rfl) s.cells (by rw [Sec.cells_length]; exact (Nat.min_eq_right (by omega)).symm) HSRC.out HTH.out HO1.out ?_))
      gi_wp2_with (refine wpListIn_load_mid rfl 54 _ rfl _ _ rfl s.cells _ HRG.out Try.underlying54 rfl (by rw [Sec.cells_length]; exact Try.sizeSec) ?_)
      refine RoundIn.mono HR.out ?_
      rintro e W3 (⟨rfl, hJ3, hk3'⟩ | ⟨rfl, hJx3⟩)
      · have HJ3 : Hid (J (xsTo zs m (k + 1)) W3) := by rw [HXS.out]; exact hJ3
        have h3 := HKC.out _ _ hk3'
        have HF : Hid ((W3.heap[Bs]? = W.heap[Bs]? ∧ W3.heap[bb]? = W.heap[bb]?) ∧ W.heap.size ≤ W3.heap.size) := by
          have hbl : Bs < wr.heap.size := hbs'
          have hbb' : bb < wr.heap.size := by omega
          refine ⟨⟨?_, ?_⟩, ?_⟩
          · rw [h3.1, heap_setCells _ _ _ _ _ (by omega), ← HK12.out.1]; exact Below.heap_alloc wr _ _ hbl
          · rw [h3.2.1, heap_setCells _ _ _ _ _ (by omega), ← HK12.out.2]; exact Below.heap_alloc wr _ _ hbb'
          · have := h3.2.2
            rw [size_setCells] at this
            have e : (wr.alloc (.cells Z 54)).drew.heap.size = wr.heap.size + 1 := World.size_alloc wr _
            omega
        clear hJ3 hk3' h3
        gi_wp2
        go_roundw
        case rel => exact ⟨k + 1, by omega, by simp, HJ3.out, HF.out.1.1, HF.out.1.2, HF.out.2⟩
        case measure => simp [intOf]; omega
      · gi_wp2
        refine bodyPost_ret (results_none rfl _ _ _) rfl ?_
        exact ⟨⟨_, rfl⟩, .inr ⟨_, trivial, hJx3⟩⟩
    · obtain rfl : k = m := by omega
      clear hJs hk1 hk2
      gi_wp2
      go_end0
      exact ⟨⟨_, rfl⟩, .inl ⟨_, rfl, HJS.out⟩⟩

theorem sectors_v (w : World) (v : Value) (a : Option Addr) (len cap : Nat) (hv : v = .slice a len cap) :
    Calls Try.prog 21 #[v] w fun e w' => e = .returned (.func (.func 27) #[] #[.pointer (some ⟨w.heap.size, 0, none⟩)]) ∧ w' = w.alloc (.cells #[v] 22) := by
  subst hv
  go_enter Try.func21, Try.ntmps21
  go_wp2
  go_ret
  exact ⟨rfl, rfl⟩

/-- What a round must keep: the iterator's own box, and the octets. -/
abbrev KpS (Bs bb : Nat) : World → World → Prop := Kept (fun k => k = Bs ∨ k = bb)
theorem sectors_stops (n Bs bb off cap m : Nat) (zs : List Nat) (hn : 1 ≤ n) (hl : zs.length = 128 * m) (hm : m ≤ 1000000000) (hcap : zs.length ≤ cap) (ho : Octets zs) (w : World)
    (hBs : w.cell? ⟨Bs, 0, none⟩ = some (.slice (some ⟨bb, off, none⟩) (128 * m) cap)) (hbs : Bs < w.heap.size) (hbb : bb < w.heap.size) (hc : OctAt w bb off zs) :
    SeqStopsK Fence.wide n Try.prog 27 #[.pointer (some ⟨Bs, 0, none⟩)] (alEnc (m := m)) (KpS Bs bb) (fun ys => ys = xsTo zs m m) (fun _ => True) m w := fun l J Jx W hW hJ _ hY h0 =>
  sectors1_in n l Bs bb off cap m zs hn hl hm hcap ho J Jx (KpS Bs bb) (fun A B h => ⟨h.block _ (.inl rfl), h.block _ (.inr rfl), h.size⟩) W hJ hY
    ((hW.cell (p := ⟨Bs, 0, none⟩) hbs).trans hBs) (Nat.lt_of_lt_of_le hbs hW.size) (Nat.lt_of_lt_of_le hbb hW.size) (fun j hj => (hW.cell (p := ⟨bb, off + j, none⟩) hbb).trans (hc j hj)) h0
theorem kpS_b {w : World} {Bs bb : Nat} (h1 : Bs < w.heap.size) (h2 : bb < w.heap.size) (W : World) (l : Nat) (o o' : Obj) (hl : w.heap.size ≤ l) (h : W.heap[l]? = some o) (_ : o.isCells = false) (_ : o.isWalk = false) : KpS Bs bb W (W.putObj l o') :=
  (Kept.refl _ W).grown (grownBy_putObj' W l o') (fun k hk => by
    have h3 := (Array.getElem?_eq_some_iff.1 h).1
    refine ⟨by omega, fun e => ?_⟩
    have := Option.some.inj e
    omega)

end Go.Proofs.Ytjjodmppneonjaa
