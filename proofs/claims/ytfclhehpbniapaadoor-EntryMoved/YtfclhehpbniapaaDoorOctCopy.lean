/- Laws of my own: 'copy' of octets into a row that is known whole; whole arrays of octets; held against each other. -/
import Derived.Test.YtfclhehpbniapaaDoorWalkWriting4
import Derived.Test.YtfclhehpbniapaaDoorWalkText4
import Derived.Test.YtfclhehpbniapaaDoorResCell
import Derived.Laws.CopyOwn
import Derived.Lib.BufferWrite
import Derived.Deep.MidRow
import Derived.Deep.WholeRow
import Derived.DeepKeys
namespace Go.Proofs.YtfclhehpbniapaaDoor
open Go.RowKit
set_option linter.unusedVariables false

theorem u8s_one (zs : List Nat) : ∀ v ∈ u8s zs, v.oneCell' = true := by
  intro u hu
  simp only [u8s, List.mem_map] at hu
  obtain ⟨z, _, rfl⟩ := hu
  rfl
theorem u8s_splice (cur : List Nat) (off : Nat) (zs : List Nat) : splice (u8s cur) off (u8s zs) = u8s (splice cur off zs) := by
  simp [splice, u8s, List.map_take, List.map_drop]
theorem u8s_at (zs : List Nat) (j : Nat) : (u8s zs).toArray[j]? = zs[j]?.map fun z => .int .u8 (z : Nat) := by simp [u8s]
theorem Octs.src {w : World} {v : Value} {zs : List Nat} (h : Octs w v zs) : ∃ sp cap, v = .slice sp zs.length cap ∧ (0 < (u8s zs).length → ∃ ad, sp = some ad ∧ ∀ j u, (u8s zs)[j]? = some u → w.cell? (ad.add j) = some u) := by
  obtain ⟨h1, h2, ad, cap, rfl, h3, h4, h5⟩ := h
  refine ⟨ad, cap, rfl, fun hp => ?_⟩
  rw [u8s_length] at hp
  rcases h5 with ⟨rfl, rfl⟩ | ⟨ad, rfl, h5⟩
  · omega
  · refine ⟨ad, rfl, fun j u hu => ?_⟩
    rcases h5 with rfl | ⟨b, off, rfl, hlt, hc⟩
    · simp at hp
    · have hj : j < zs.length := by
        by_cases hj : j < zs.length
        · exact hj
        · rw [List.getElem?_eq_none (by rw [u8s_length]; omega)] at hu; cases hu
      rw [show (⟨b, off, none⟩ : Addr).add j = ⟨b, off + j, none⟩ by unfold Addr.add; split <;> simp_all, hc j hj]
      simp [u8s, List.getElem?_eq_getElem hj] at hu ⊢
      exact hu

/-- 'copy(row[off:], octets)' as a step of a region that draws. -/
theorem step_copy_octs {P : Program} {ops : Array Oper} {o : Oper} {a : Act} {w : World} {K : Act → World → Prop} {Q : Exit → Act → World → Prop} {E : Prop} (hgd : o.guard = none) (d s : Operand) (dT sT : TypeId)
    (ho : o.op = .call { callee := .builtin .copy, args := #[d, s], argTypes := #[dT, sT] }) (elem : TypeId) (hu : P.underlying dT = some (.slice elem)) (hsz : (P.info? elem).map (·.size) = some 1)
    (g off dLen dCap : Nat) (hd : a.eval d = .slice (some ⟨g, off, none⟩) dLen dCap) (y : Value) (zs : List Nat) (hs : a.eval s = y) (hsrc : Octs w y zs)
    (cur : List Nat) (t : TypeId) (hg : w.heap[g]? = some (.cells (u8s cur).toArray t (0, 0))) (hfit : zs.length ≤ dLen) (hfit2 : off + zs.length ≤ cur.length)
    (B : Nat) (w0 : World) (hb : Below B w0 w) (hBg : B ≤ g)
    (h : ∀ w', Hid (w'.heap[g]? = some (.cells (u8s (splice cur off zs)).toArray t (0, 0))) → Hid (Below B w0 w') → Hid (Only g w w') → K (a.put o.dst (goInt zs.length)) w') :
    if Region.wanted o (yielded ops a.tmps) = true then Oper.wp P o a w K Q else E := by
  have hw : Region.wanted o (yielded ops a.tmps) = true := by simp [Region.wanted, hgd]
  rw [if_pos hw]
  obtain ⟨sp, cap, rfl, hpos⟩ := hsrc.src
  by_cases h0 : zs.length = 0
  · obtain rfl : zs = [] := List.eq_nil_of_length_eq_zero h0
    have hrun := run_copy_none (P := P) w dT sT o.type elem (some ⟨g, off, none⟩) sp dLen dCap 0 cap hu hsz (by simp [Nat.min])
    unfold Oper.wp
    simp [execOp, ho, resolve, invoke, builtin, hd, hs, hrun, Result.andThen]
    exact h w (show _ = _ by simpa [splice] using hg) hb (Only.refl _ _)
  · obtain ⟨ad, rfl, hsrc'⟩ := hpos (by rw [u8s_length]; omega)
    have hrun := run_copy_row (P := P) w dT sT o.type elem g off dLen dCap ad zs.length cap (u8s cur).toArray t (u8s zs) hu hsz hg (by rw [u8s_length]; exact (Nat.min_eq_left hfit).symm) hsrc' (by rw [u8s_length]; simpa [u8s_length] using hfit2) (u8s_one zs)
    unfold Oper.wp
    simp [execOp, ho, resolve, invoke, builtin, hd, hs, hrun, Result.andThen]
    rw [u8s_length]
    refine h _ (show _ = _ from ?_) (below_setRow hb hBg _) ?_
    · rw [← u8s_splice]
      simpa [splice, u8s_length] using setRow_heap w g _ _ t _ hg
    · exact Kept.trans (K := fun k => k < w.heap.size ∧ k ≠ g) (Kept.refl _ _) ⟨rfl, rfl, rfl, by simp [World.setRow], fun k hk => setRow_other w g k _ hk.2⟩
/-- The same in a walk. -/
theorem wpList_copy_octs {P : Program} {w : World} {ops : Array Oper} {rest : List Oper} {o : Oper} {a : Act} {Q : Exit → Act → World → Prop} (hgd : o.guard = none) (d s : Operand) (dT sT : TypeId)
    (ho : o.op = .call { callee := .builtin .copy, args := #[d, s], argTypes := #[dT, sT] }) (elem : TypeId) (hu : P.underlying dT = some (.slice elem)) (hsz : (P.info? elem).map (·.size) = some 1)
    (g off dLen dCap : Nat) (hd : a.eval d = .slice (some ⟨g, off, none⟩) dLen dCap) (y : Value) (zs : List Nat) (hs : a.eval s = y) (hsrc : Octs w y zs)
    (cur : List Nat) (t : TypeId) (hg : w.heap[g]? = some (.cells (u8s cur).toArray t (0, 0))) (hfit : zs.length ≤ dLen) (hfit2 : off + zs.length ≤ cur.length)
    (B : Nat) (w0 : World) (hb : Below B w0 w) (hBg : B ≤ g)
    (h : ∀ w', Hid (w'.heap[g]? = some (.cells (u8s (splice cur off zs)).toArray t (0, 0))) → Hid (Below B w0 w') → Hid (Only g w w') → wpList P ops Q rest (a.put o.dst (goInt zs.length)) w') : wpList P ops Q (o :: rest) a w := by
  refine wpList_plain hgd fun K hK => ?_
  have := step_copy_octs (P := P) (ops := ops) (o := o) (a := a) (w := w) (K := K) (Q := Q) (E := False) hgd d s dT sT ho elem hu hsz g off dLen dCap hd y zs hs hsrc cur t hg hfit hfit2 B w0 hb hBg (fun w' h1 h2 h3 => hK _ _ (h w' h1 h2 h3))
  have hw : Region.wanted o (yielded ops a.tmps) = true := by simp [Region.wanted, hgd]
  rwa [if_pos hw] at this
/-- 'copy(row[off:off+n], octets)', where there may be more octets. -/
theorem step_copy_octsN {P : Program} {ops : Array Oper} {o : Oper} {a : Act} {w : World} {K : Act → World → Prop} {Q : Exit → Act → World → Prop} {E : Prop} (hgd : o.guard = none) (d s : Operand) (dT sT : TypeId)
    (ho : o.op = .call { callee := .builtin .copy, args := #[d, s], argTypes := #[dT, sT] }) (elem : TypeId) (hu : P.underlying dT = some (.slice elem)) (hsz : (P.info? elem).map (·.size) = some 1)
    (g off dLen dCap : Nat) (hd : a.eval d = .slice (some ⟨g, off, none⟩) dLen dCap) (y : Value) (zs : List Nat) (hs : a.eval s = y) (hsrc : Octs w y zs)
    (cur : List Nat) (t : TypeId) (hg : w.heap[g]? = some (.cells (u8s cur).toArray t (0, 0))) (hfit : dLen ≤ zs.length) (hpos : 0 < dLen) (hfit2 : off + dLen ≤ cur.length)
    (B : Nat) (w0 : World) (hb : Below B w0 w) (hBg : B ≤ g)
    (h : ∀ w', Hid (w'.heap[g]? = some (.cells (u8s (splice cur off (zs.take dLen))).toArray t (0, 0))) → Hid (Below B w0 w') → Hid (Only g w w') → K (a.put o.dst (goInt dLen)) w') :
    if Region.wanted o (yielded ops a.tmps) = true then Oper.wp P o a w K Q else E := by
  have hw : Region.wanted o (yielded ops a.tmps) = true := by simp [Region.wanted, hgd]
  rw [if_pos hw]
  obtain ⟨sp, cap, rfl, hpos2⟩ := hsrc.src
  obtain ⟨ad, rfl, hsrc'⟩ := hpos2 (by rw [u8s_length]; omega)
  have hlen : (u8s (zs.take dLen)).length = dLen := by rw [u8s_length, List.length_take]; omega
  have hrun := run_copy_row (P := P) w dT sT o.type elem g off dLen dCap ad zs.length cap (u8s cur).toArray t (u8s (zs.take dLen)) hu hsz hg (by rw [hlen]; exact (Nat.min_eq_right hfit).symm) (fun j u hu => hsrc' j u (by
    have hj : j < dLen := by have := (List.getElem?_eq_some_iff.1 hu).1; rwa [hlen] at this
    rw [← hu]; simp only [u8s, List.map_take]; rw [List.getElem?_take_of_lt hj])) (by rw [hlen]; simpa [u8s_length] using hfit2) (u8s_one _)
  rw [hlen] at hrun
  unfold Oper.wp
  simp [execOp, ho, resolve, invoke, builtin, hd, hs, hrun, Result.andThen]
  refine h _ (show _ = _ from ?_) (below_setRow hb hBg _) ?_
  · rw [← u8s_splice, splice, hlen]
    simpa using setRow_heap w g _ _ t _ hg
  · exact Kept.trans (K := fun k => k < w.heap.size ∧ k ≠ g) (Kept.refl _ _) ⟨rfl, rfl, rfl, by simp [World.setRow], fun k hk => setRow_other w g k _ hk.2⟩
/-- 'copy(row[off:], "..")'. -/
theorem wpList_copy_str {P : Program} {w : World} {ops : Array Oper} {rest : List Oper} {o : Oper} {a : Act} {Q : Exit → Act → World → Prop} (hgd : o.guard = none) (d s : Operand) (dT sT : TypeId)
    (ho : o.op = .call { callee := .builtin .copy, args := #[d, s], argTypes := #[dT, sT] }) (elem : TypeId) (hu : P.underlying dT = some (.slice elem)) (hsz : (P.info? elem).map (·.size) = some 1)
    (g off dLen dCap : Nat) (hd : a.eval d = .slice (some ⟨g, off, none⟩) dLen dCap) (str : ByteArray) (hs : a.eval s = .string str)
    (cur : List Nat) (t : TypeId) (hg : w.heap[g]? = some (.cells (u8s cur).toArray t (0, 0))) (hfit : str.size ≤ dLen) (hfit2 : off + str.size ≤ cur.length)
    (B : Nat) (w0 : World) (hb : Below B w0 w) (hBg : B ≤ g)
    (h : ∀ w', Hid (w'.heap[g]? = some (.cells (u8s (splice cur off (octsOf str))).toArray t (0, 0))) → Hid (Below B w0 w') → wpList P ops Q rest (a.put o.dst (goInt str.size)) w') : wpList P ops Q (o :: rest) a w := by
  refine wpList_plain hgd fun K hK => ?_
  have hrun := Lib.run_copy_row_string (P := P) w dT sT o.type elem g off dLen dCap str (u8s cur).toArray t hu hsz hg hfit (by simpa [u8s_length] using hfit2)
  unfold Oper.wp
  simp [execOp, ho, resolve, invoke, builtin, hd, hs, hrun, Result.andThen]
  refine hK _ _ (h _ (show _ = _ from ?_) (below_setRow hb hBg _))
  have e : Lib.byteCells str.data.toList = u8s (octsOf str) := by simp [Lib.byteCells, u8s, octsOf]
  rw [← u8s_splice, ← octsOf_length, splice, u8s_length, e]
  simpa using setRow_heap w g _ _ t _ hg

/-- A row that is known whole, as octets. -/
theorem octs_row {w : World} {g : Nat} {zs : List Nat} {t : TypeId} (hg : w.heap[g]? = some (.cells (u8s zs).toArray t (0, 0))) (hz : ∀ z ∈ zs, z < 256) (k : Nat) (hk : k ≤ zs.length) (cap : Nat) (hl : zs.length ≤ maxLen) (hc : zs.length - k ≤ cap) (hc2 : cap ≤ maxLen) :
    Octs w (.slice (some ⟨g, k, none⟩) (zs.length - k) cap) (zs.drop k) := by
  refine ⟨fun z h => hz z (List.mem_of_mem_drop h), by rw [List.length_drop]; omega, _, cap, by rw [List.length_drop], by rw [List.length_drop]; omega, hc2, .inr ⟨_, rfl, .inr ⟨g, k, rfl, lt_of_heap hg, ?_⟩⟩⟩
  intro j hj
  rw [cell_of_row _ _ _ _ _ _ hg, u8s_at]
  rw [List.length_drop] at hj
  simp [List.getElem?_eq_getElem (show k + j < zs.length by omega)]
theorem octs_row0 {w : World} {g n : Nat} {zs : List Nat} {t : TypeId} (hg : w.heap[g]? = some (.cells (u8s zs).toArray t (0, 0))) (hz : ∀ z ∈ zs, z < 256) (hn : zs.length = n) (hl : n ≤ maxLen) : Octs w (.slice (some ⟨g, 0, none⟩) n n) zs := by
  subst hn
  have := octs_row hg hz 0 (Nat.zero_le _) zs.length hl (by omega) hl
  rwa [Nat.sub_zero, List.drop_zero] at this
theorem below_setCells {B b : Nat} {a w : World} (h : Below B a w) (hb : B ≤ b) (o : Nat) (vs : List Value) : Below B a (w.setCells b o vs) :=
  ((Kept.ofBelow (K := fun k => k < B) h fun _ hk => hk).setCells (b := b) (by omega) o vs).below fun _ hk => hk
theorem range_row {w : World} {g : Nat} {C : List Value} {t : TypeId} (hg : w.heap[g]? = some (.cells C.toArray t (0, 0))) : w.rangeAt g 0 C := fun j v hv => by
  rw [cell_of_row _ _ _ _ _ _ hg, Nat.zero_add]
  simpa using hv
theorem there_row {w : World} {g : Nat} {C : List Value} {t : TypeId} (hg : w.heap[g]? = some (.cells C.toArray t (0, 0))) : w.there g 0 C.length := fun j hj => by
  refine ⟨?_, ?_⟩
  · rw [cell_of_row _ _ _ _ _ _ hg, Nat.zero_add]
    simp [hj]
  · simp [World.frozen?, hg]
theorem there_row' {w : World} {g : Nat} {C : List Value} {t : TypeId} {n : Nat} (hg : w.heap[g]? = some (.cells C.toArray t (0, 0))) (h : n = C.length) : w.there g 0 n := by subst h; exact there_row hg
/-- So many noughts. -/
def zl (n : Nat) : List Nat := List.replicate n 0
theorem zl_length (n : Nat) : (zl n).length = n := by simp [zl]
theorem zl_small (n : Nat) : ∀ z ∈ zl n, z < 256 := by intro z h; rw [List.eq_of_mem_replicate h]; decide
theorem rep_u8s (n : Nat) : Array.replicate n (Value.int .u8 0) = (u8s (zl n)).toArray := by simp [u8s, zl]

/-- A whole row is read, as the walk's own simp leaves it. -/
theorem load_row {P : Program} {w : World} {g n : Nat} {zs : List Nat} {t : TypeId} (hg : w.heap[g]? = some (.cells (u8s zs).toArray t (0, 0))) (hn : zs.length = n) : (loadCellsFrom ⟨g, 0, none⟩ 0 n #[]).run P w = .ok (u8s zs).toArray w := by
  have := run_loadCells_list (P := P) w ⟨g, 0, none⟩ (u8s zs) (fun j v hv => by rw [addr_add]; have := range_row hg j v hv; rwa [Nat.zero_add] at this)
  rw [u8s_length, hn] at this
  simpa [loadCells] using this

/-! ### Arrays of octets held against each other -/
theorem eqItems_u8 {P : Program} (w : World) (d : Nat) (e : TypeId) (k : IntKind) (hu : P.underlying e = some (.int k)) (xs ys : List Nat) : ∀ is : List Nat, (∀ i ∈ is, i < xs.length ∧ i < ys.length) →
    (Op.eqItems (d + 1) e 1 (u8s xs).toArray (u8s ys).toArray is).run P w = .ok (decide (∀ i ∈ is, xs[i]? = ys[i]?)) w
  | [], _ => by simp [Op.eqItems]
  | i :: is, h => by
    obtain ⟨h1, h2⟩ := h i (by simp)
    have ih := eqItems_u8 w d e k hu xs ys is fun j hj => h j (by simp [hj])
    have hp : ∀ zs : List Nat, (hz : i < zs.length) → (part e (u8s zs).toArray (i * 1)).run P w = .ok (.int .u8 (zs[i] : Nat)) w := by
      intro zs hz
      have e : (u8s zs)[i]? = some (.int .u8 (zs[i] : Nat)) := by simp [u8s, List.getElem?_eq_getElem hz]
      simp [part, isAgg, run_underlying hu, Result.andThen, e]
    simp only [Op.eqItems, Sem.run_bind, hp xs h1, hp ys h2, Result.andThen_ok, run_equalIn_int w d e .u8 k _ _ hu]
    by_cases hx : xs[i] = ys[i]
    · rw [show ((xs[i] : Int) == (ys[i] : Int)) = true by simp [hx]]
      simp only [Bool.not_true, Bool.false_eq_true, if_false, ih]
      congr 1
      simp [List.getElem?_eq_getElem h1, List.getElem?_eq_getElem h2, hx]
    · rw [show ((xs[i] : Int) == (ys[i] : Int)) = false by simp; omega]
      simp [List.getElem?_eq_getElem h1, List.getElem?_eq_getElem h2, hx]
theorem eq_arr {P : Program} (w : World) (t e : TypeId) (n : Nat) (k : IntKind) {i : TypeInfo} (ht : P.underlying t = some (.array n e)) (hi : P.info? e = some i) (hc : P.cellsOf e = 1) (hu : P.underlying e = some (.int k)) (xs ys : List Nat) (hx : xs.length = n) (hy : ys.length = n) :
    (Op.equalIn 10000 t (.agg (u8s xs).toArray) (.agg (u8s ys).toArray)).run P w = .ok (decide (xs = ys)) w := by
  rw [run_equalIn_array w 9999 _ _ ht hi, hc, eqItems_u8 w 9998 e k hu xs ys _ (fun j hj => by rw [List.mem_range] at hj; omega)]
  congr 1
  rw [decide_eq_decide]
  constructor
  · intro h
    apply List.ext_getElem?
    intro j
    by_cases hj : j < n
    · exact h j (by simpa using hj)
    · rw [List.getElem?_eq_none (by omega), List.getElem?_eq_none (by omega)]
  · rintro rfl _ _; rfl

/-! ### An element of an array that is a value -/
theorem run_index_one {P : Program} (w : World) {t e : TypeId} {n : Nat} {q : IntKind} (A : Array Value) (k : Nat) (v : Value) (hu : P.underlying t = some (.array n e)) (he : P.underlying e = some (.int q)) (hs : (P.info? e).map (·.size) = some 1) (hk : k < n) (hv : A[k]? = some v) :
    (Instr.index t (.agg A) (.int .i64 (k : Nat))).run P w = .ok v w := by
  have h1 : (0 : Int) ≤ (k : Int) := by omega
  have h2 : (k : Int) < (n : Int) := by omega
  cases hq : P.info? e with
  | none => simp [hq] at hs
  | some i =>
    simp [hq] at hs
    simp [Instr.index, asIntOf, run_underlying hu, run_underlying he, Result.andThen, h1, part, isAgg, sizeOf, typeInfo, hq, hs, hv]
    intro h; omega
theorem run_index_agg {P : Program} (w : World) {t e : TypeId} {n m : Nat} {e2 : TypeId} (A : Array Value) (k : Nat) (hu : P.underlying t = some (.array n e)) (he : P.underlying e = some (.array m e2)) (hs : (P.info? e).map (·.size) = some m) (hk : k < n) :
    (Instr.index t (.agg A) (.int .i64 (k : Nat))).run P w = .ok (.agg (A.extract (k * m) (k * m + m))) w := by
  have h1 : (0 : Int) ≤ (k : Int) := by omega
  have h2 : (k : Int) < (n : Int) := by omega
  cases hq : P.info? e with
  | none => simp [hq] at hs
  | some i =>
    simp [hq] at hs
    simp [Instr.index, asIntOf, run_underlying hu, run_underlying he, Result.andThen, h1, part, isAgg, sizeOf, typeInfo, hq, hs]
    intro h; omega
theorem u8s_extract (zs : List Nat) (a b : Nat) : (u8s zs).toArray.extract a b = (u8s ((zs.drop a).take (b - a))).toArray := by
  simp [u8s, List.map_take, List.map_drop]

/-- A whole variable into the block that was made last. -/
theorem wpList_store_last5 {P : Program} {ops : Array Oper} {rest : List Oper} {op : Oper} {a : Act} {w : World} {Q : Exit → Act → World → Prop} (hgd : op.guard = none) (ty : TypeId) (x y : Operand) (ho : op.op = .store ty x y)
    (w0 : World) (c : Array Value) (hw : w = w0.alloc (.cells c ty)) (cells : Array Value) (hx : a.eval x = .pointer (some ⟨w0.heap.size, 0, none⟩)) (hy : a.eval y = .agg cells)
    (hi : (P.info? ty).map (·.size) = some cells.size) (hs : c.size = cells.size) (h1 : cells.all (·.oneCell') = true)
    (h : wpList P ops Q rest (a.put op.dst undef) (w0.alloc (.cells cells ty))) : wpList P ops Q (op :: rest) a w := by
  subst hw
  refine wpList_plain hgd fun _ hK => ?_
  unfold Oper.wp execOp
  simp only [ho, hx, hy, Instr.storeAt, Instr.sureAddr, Sem.run_bind, Sem.run_pure, Result.andThen_ok, run_storeVar_new w0 ty c cells hi hs h1]
  exact hK _ _ h
end Go.Proofs.YtfclhehpbniapaaDoor
