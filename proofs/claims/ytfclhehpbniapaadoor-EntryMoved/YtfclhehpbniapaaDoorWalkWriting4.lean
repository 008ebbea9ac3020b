/- A writing in memory; contracts of 'Write' and of a writing's 'Num', 'Zig', 'Text', 'Bytes'. -/
import Derived.Test.YtfclhehpbniapaaDoorWalkRead4
import Derived.Test.YtfclhehpbniapaaDoorWalkSeal
import Derived.Deep.RegionLaw
import Derived.Lib.AppendStr
namespace Go.Proofs.YtfclhehpbniapaaDoor
open Go.RowKit
set_option linter.unusedVariables false

/-- 'append(own, octets...)' as a step of a region that draws. -/
theorem step_append_octs {P : Program} {w : World} {ops : Array Oper} {o : Oper} {a : Act} {K : Act → World → Prop} {Q : Exit → Act → World → Prop} {E : Prop} (hgd : o.guard = none) (s x : Operand) (t : TypeId)
    (ho : o.op = .call { callee := .builtin .append, args := #[s, x], argTypes := #[t, t] })
    (base : Nat) (e : TypeId) (i : TypeInfo) (ht : P.underlying t = some (.slice e)) (hi : P.info? e = some i) (hz : i.zero = some (.int .u8 0)) (hsize : i.size = 1) (hby : i.bytes = 1)
    (v : Value) (n : Nat) (xs : List Nat) (hs : a.eval s = v) (hown : w.ownsRow base e 1 v n (u8s xs))
    (y : Value) (zs : List Nat) (hx : a.eval x = y) (hsrc : Octs w y zs) (h63 : n + zs.length ≤ 140737488355328) (hbase : base ≤ w.heap.size)
    (h : ∀ v' w', w'.ownsRow base e 1 v' (n + zs.length) (u8s (xs ++ zs)) → w.grownBy w' v.ownBlock → K (a.put o.dst v') w') :
    if Region.wanted o (yielded ops a.tmps) = true then Oper.wp P o a w K Q else E := by
  have hw : Region.wanted o (yielded ops a.tmps) = true := by simp [Region.wanted, hgd]
  rw [if_pos hw]
  obtain ⟨h1, h2, ad, cap, rfl, h3, h4, h5⟩ := hsrc
  rcases h5 with ⟨rfl, rfl⟩ | ⟨ad, rfl, h5⟩
  · obtain rfl : zs = [] := List.eq_nil_of_length_eq_zero (by omega)
    have hrun := run_append_owned_none (P := P) (w := w) base t o.type e i 1 ht hi v n _ hown
    unfold Oper.wp
    simp [execOp, ho, resolve, invoke, builtin, hs, hx, hrun, Result.andThen]
    exact h v w (by simpa using hown) (World.grownBy.refl _ _)
  · refine wp_append_own w s x t ho base e i (.int .u8 0) 1 1 ht hi hz hsize hby rfl (by decide) v n _ hs hown ad zs.length cap (u8s zs) hx (by rw [u8s_length, Nat.mul_one]) ?_ ?_ (by unfold maxLen; omega) (by omega) hbase ?_
    · intro j u hu
      rcases h5 with rfl | ⟨b, off, rfl, hlt, hc⟩
      · simp [u8s] at hu
      · have hj : j < zs.length := by
          by_cases hj : j < zs.length
          · exact hj
          · rw [List.getElem?_eq_none (by rw [u8s_length]; omega)] at hu; cases hu
        rw [show (⟨b, off, none⟩ : Addr).add j = ⟨b, off + j, none⟩ by unfold Addr.add; split <;> simp_all, hc j hj]
        simp [u8s, List.getElem?_eq_getElem hj] at hu ⊢
        exact hu
    · intro u hu
      simp only [u8s, List.mem_map] at hu
      obtain ⟨z, _, rfl⟩ := hu
      rfl
    · intro v' w' hw hg _
      rw [← u8s_append] at hw
      exact h v' w' hw hg

/-! ### A writing -/
/-- The writing at block p: its octets lie in memory from block 'base' on. -/
structure IsWv (base : Nat) (w : World) (p : Nat) (v : Value) (zs : List Nat) : Prop where
  head : w.heap[p]? = some (.cells #[v] 55 (0, 0))
  own : w.ownsRow base 5 1 v zs.length (u8s zs)
  oct : ∀ z ∈ zs, z < 256
  le : base ≤ p
def IsW (base : Nat) (w : World) (p : Nat) (zs : List Nat) : Prop := ∃ v, IsWv base w p v zs
theorem own_apart {base : Nat} {w : World} {p : Nat} {u v : Value} {n : Nat} {xs : List Value} (hh : w.heap[p]? = some (.cells #[u] 55 (0, 0))) (ho : w.ownsRow base 5 1 v n xs) : v.ownBlock ≠ some p := by
  intro e
  rcases ho.2 with ⟨rfl, _⟩ | ⟨g, cap, cur, rfl, hb, hg, _⟩
  · simp [Value.ownBlock] at e
  · have : g = p := by simpa [Value.ownBlock] using e
    subst this
    rw [hg] at hh
    simp at hh
theorem IsWv.lt {base : Nat} {w : World} {p : Nat} {v : Value} {zs : List Nat} (h : IsWv base w p v zs) : p < w.heap.size := lt_of_heap h.head
theorem own_shape {base : Nat} {e : TypeId} {w : World} {v : Value} {n : Nat} {xs : List Value} (h : w.ownsRow base e 1 v n xs) : ∃ a cap, v = .slice a n cap := by
  rcases h.2 with ⟨rfl, h0⟩ | ⟨g, cap, cur, rfl, _⟩
  · exact ⟨none, 0, by rw [h0]⟩
  · exact ⟨_, cap, rfl⟩
theorem IsWv.kept {base : Nat} {w w' : World} {p : Nat} {v : Value} {zs : List Nat} (h : IsWv base w p v zs) (hb : Below w.heap.size w w') : IsWv base w' p v zs :=
  ⟨(hb.block p h.lt).trans h.head, own_kept h.own hb (Nat.le_refl _), h.oct, h.le⟩
theorem IsW.drew {base : Nat} {w : World} {p : Nat} {zs : List Nat} (h : IsW base w p zs) : IsW base w.drew p zs := by
  obtain ⟨v, h⟩ := h
  exact ⟨v, h.kept (Below.refl _ _).drew⟩
/-- Behind an append, ahead of the store: the head. -/
theorem IsWv.headed {base : Nat} {w W w1 : World} {p : Nat} {v : Value} {zs : List Nat} (h : IsWv base w p v zs) (hB : Below w.heap.size w W) (hg : W.grownBy w1 v.ownBlock) : w1.heap[p]? = some (.cells #[v] 55 (0, 0)) := by
  have hW := h.kept hB
  exact (hg.block p hW.lt (fun e => own_apart hW.head hW.own e.symm)).trans hW.head
/-- Behind the store. -/
theorem IsWv.stored {base : Nat} {w W w1 : World} {p : Nat} {v v' : Value} {zs new : List Nat} (h : IsWv base w p v zs) (hB : Below w.heap.size w W) (hg : W.grownBy w1 v.ownBlock) {k : Nat} (ho : w1.ownsRow base 5 1 v' (zs.length + k) (u8s (zs ++ new)))
    (hk : new.length = k) (hn : ∀ z ∈ new, z < 256) : IsW base (w1.setCell ⟨p, 0, none⟩ v') p (zs ++ new) ∧ Below base w (w1.setCell ⟨p, 0, none⟩ v') := by
  have hh := h.headed hB hg
  have hle := h.le
  have hlt := h.lt
  subst hk
  rw [← List.length_append] at ho
  refine ⟨⟨v', one_setCell hh, ownsRow_setCell_other ho (own_apart hh ho) _, fun z hz => ?_, hle⟩, ?_⟩
  · rcases List.mem_append.1 hz with e | e
    · exact h.oct z e
    · exact hn z e
  · have hW := h.kept hB
    exact ((hB.mono (by omega)).trans (below_grown hW.own hg (by have := hW.lt; omega))).setCell (p := ⟨p, 0, none⟩) hle _

theorem write_new (w : World) : Calls Tryd.prog 11 #[] w fun e w' => e = .returned (.pointer (some ⟨w.heap.size, 0, none⟩)) ∧ IsW w.heap.size w' w.heap.size [] ∧ Below w.heap.size w w' := by
  go_enter Tryd.func11, Tryd.ntmps11
  go_wp2
  go_ret
  exact ⟨rfl, ⟨_, heap_alloc_new w _, World.ownsRow_nil _ _ _ _, by simp, Nat.le_refl _⟩, (Below.refl _ _).alloc (Nat.le_refl _) _⟩

/-- A number's octets. -/
def octZ (n : Int) (k : Nat) : List Nat := (octL n k).map Int.toNat
theorem octZ_length (n : Int) (k : Nat) : (octZ n k).length = k := by simp [octZ, octL]
theorem octet_bd (n : Int) (i : Nat) : 0 ≤ octet n i ∧ octet n i < 256 := by unfold octet; omega
theorem octZ_small (n : Int) (k : Nat) : ∀ z ∈ octZ n k, z < 256 := by
  intro z hz
  simp only [octZ, octL, List.map_map, List.mem_map] at hz
  obtain ⟨i, _, rfl⟩ := hz
  have := octet_bd n i
  simp only [Function.comp]
  omega
theorem octZ_cells (n : Int) (k : Nat) : (octL n k).map (Value.int .u8) = u8s (octZ n k) := by
  unfold octZ u8s octL
  rw [List.map_map, List.map_map, List.map_map]
  apply List.map_congr_left
  intro i _
  have := octet_bd n i
  simp only [Function.comp]
  congr 1; omega
theorem lay_octs (n m : Int) (w : World) :
    Calls Tryd.prog 24 #[.int .i64 n, .int .i64 m] w fun e w' => ∃ v, e = .returned v ∧ Octs w' v (octZ n (cl m 8)) ∧ Below w.heap.size w w' := by
  refine (lay_any n m w).mono ?_
  rintro e w' ⟨rfl, rfl⟩
  have hk := cl_le m 8
  have := octs_new w (octZ n (cl m 8)) 5 (octZ_small _ _) (by rw [octZ_length]; unfold maxLen; omega)
  rw [octZ_length] at this
  rw [octZ_cells]
  exact ⟨_, rfl, this, (Below.refl _ _).alloc (Nat.le_refl _) _⟩

set_option maxHeartbeats 800000 in
theorem wnum_any {base : Nat} {w : World} {p : Nat} {zs : List Nat} (h : IsW base w p zs) (n m : Int) (hl : zs.length ≤ 100000) :
    Calls Tryd.prog 12 #[.pointer (some ⟨p, 0, none⟩), .int .i64 n, .int .i64 m] w fun e w' => e = .returned (.pointer (some ⟨p, 0, none⟩)) ∧ IsW base w' p (zs ++ octZ n (cl m 8)) ∧ Below base w w' := by
  obtain ⟨i0, hi, hz0, hz1, hz2⟩ := info_parts Tryd.infoU8'
  obtain ⟨v, h⟩ := h
  have H : Hid (IsWv base w p v zs) := h
  obtain ⟨a, cap, rfl⟩ := own_shape h.own
  have c0 := cell_of_one h.head
  have HL : Hid ((octZ n (cl m 8)).length = cl m 8) := octZ_length _ _
  have HZ : Hid (∀ z ∈ octZ n (cl m 8), z < 256) := octZ_small _ _
  have hk := cl_le m 8
  have hlt := h.lt
  have hle := h.le
  clear h
  go_enter Tryd.func12, Tryd.ntmps12
  go_wp2
  go_region_law (first
    | (refine step_append_octs (by rfl) _ _ 24 (by rfl) base 5 i0 Tryd.underlying24 hi hz0 hz1 hz2 _ zs.length zs (by rfl) (H.out.kept HB1.out).own _ (octZ n (cl m 8)) (by rfl) HO1.out (by rw [HL.out]; omega) (by have := HB1.out.size; omega) ?_
       intro v2 w2 hown2 hg2
       have c2 := cell_of_one (H.out.headed HB1.out hg2)
       have f2 := free_of_one (H.out.headed HB1.out hg2)
       have R2 : Hid (IsW base (w2.setCell ⟨p, 0, none⟩ v2) p (zs ++ octZ n (cl m 8)) ∧ Below base w (w2.setCell ⟨p, 0, none⟩ v2)) := H.out.stored HB1.out hg2 hown2 rfl HZ.out
       obtain ⟨a2, cap2, e2⟩ := own_shape hown2
       subst e2
       clear hown2 hg2)
    | (go_simp; refine (lay_octs n m _).mono ?_; rintro e w1 ⟨v1, rfl, ho1, hb1⟩
       have HB1 : Hid (Below w.heap.size w w1) := below_undrew hb1
       have HO1 : Hid (Octs w1 v1 (octZ n (cl m 8))) := ho1
       have c1 : w1.cell? ⟨p, 0, none⟩ = some (.slice a zs.length cap) := (HB1.out.cell (p := ⟨p, 0, none⟩) hlt).trans c0
       clear hb1 ho1))
  all_goals go_wp2
  all_goals go_ret
  all_goals exact ⟨rfl, R2.out.1, R2.out.2⟩

/-- One octet in a block of its own. -/
theorem octs_single (w : World) (x : Nat) (hx : x < 256) : Octs (w.alloc (.cells #[.int .u8 (x : Nat)] 5)) (.slice (some ⟨w.heap.size, 0, none⟩) 1 1) [x] :=
  octs_new w [x] 5 (by intro z hz; simp at hz; omega) (by simp [maxLen])

/-- A string's octets. -/
def octsOf (s : ByteArray) : List Nat := s.data.toList.map UInt8.toNat
theorem octsOf_length (s : ByteArray) : (octsOf s).length = s.size := by rw [octsOf, List.length_map]; rfl
theorem octsOf_small (s : ByteArray) : ∀ z ∈ octsOf s, z < 256 := by
  intro z hz
  simp only [octsOf, List.mem_map] at hz
  obtain ⟨b, _, rfl⟩ := hz
  exact b.toNat_lt
theorem strN_octsOf (s : ByteArray) : strN (octsOf s) = s := by
  apply ByteArray.ext
  simp only [strN, strOfNums, octsOf, List.map_map]
  have : ((fun n => UInt8.ofNat n.toNat) ∘ Int.ofNat ∘ UInt8.toNat) = id := by
    funext b
    simp
  rw [this]
  simp
theorem octsOf_strN (ts : List Nat) (h : ∀ t ∈ ts, t < 256) : octsOf (strN ts) = ts := by
  apply strN_inj (octsOf_small _) h
  exact strN_octsOf _
theorem strCells_octs (s : ByteArray) : Lib.strCells s = u8s (octsOf s) := by
  simp [Lib.strCells, u8s, octsOf]

set_option maxHeartbeats 400000 in
theorem wbytes_any {base : Nat} {w : World} {p : Nat} {zs : List Nat} (h : IsW base w p zs) (hl : zs.length ≤ 100000) :
    Calls Tryd.prog 15 #[.pointer (some ⟨p, 0, none⟩)] w fun e w' => ∃ v, e = .returned v ∧ Octs w' v zs ∧ Below w.heap.size w w' := by
  obtain ⟨i0, hi, hz0, hz1, hz2⟩ := info_parts Tryd.infoU8'
  obtain ⟨v, hv⟩ := h
  have HO : Hid (Octs w v zs) := Octs.owned hv.own hv.oct
  obtain ⟨a, cap, rfl⟩ := own_shape hv.own
  have hlt := hv.lt
  have c0 : (w.alloc (.cells #[] 5)).cell? ⟨p, 0, none⟩ = some (.slice a zs.length cap) := (World.cell?_alloc_past _ _ _ hlt).trans (cell_of_one hv.head)
  clear hv
  go_enter Tryd.func15, Tryd.ntmps15
  go_wp2_with (at_builtin; refine wpList_append_octs _ rfl _ _ 24 rfl w.heap.size 5 i0 Tryd.underlying24 hi hz0 hz1 hz2 _ 0 [] rfl (World.ownsRow_made _ #[] 0 (Nat.le_refl _) (by decide) rfl) _ zs rfl (HO.out.alloc _) ?d1 ?d2 ?_)
  case d1 => omega
  case d2 => simp
  intro v2 w2 hown2 hg2
  have HB2 : Hid (Below w.heap.size w w2) := ((Below.refl _ _).alloc (Nat.le_refl _) _).trans (below_grown (World.ownsRow_made _ #[] 0 (Nat.le_refl _) (by decide) rfl) hg2 (by simp))
  have HO2 : Hid (Octs w2 v2 zs) := Octs.owned (by simpa using hown2) HO.out.small
  clear hown2 hg2
  go_wp2
  go_ret
  exact ⟨_, rfl, HO2.out, HB2.out⟩
end Go.Proofs.YtfclhehpbniapaaDoor
