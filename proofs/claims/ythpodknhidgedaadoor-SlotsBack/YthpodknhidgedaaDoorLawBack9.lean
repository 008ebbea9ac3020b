/- The law SlotsBack over the contracts of package slots. -/
import Derived.Test.YthpodknhidgedaaDoorLawFew9
import Derived.Deep.RegionLaw
namespace Go.Proofs.YthpodknhidgedaaDoor
open Go.RowKit
set_option linter.unusedVariables false

/-- 'append(own, ints...)', as one step of a region that draws. -/
theorem step_append_nums {P : Program} {w : World} {ops : Array Oper} {o : Oper} {a : Act} {K : Act → World → Prop} {Q : Exit → Act → World → Prop} {E : Prop} (hgd : o.guard = none) (s x : Operand) (t : TypeId)
    (ho : o.op = .call { callee := .builtin .append, args := #[s, x], argTypes := #[t, t] })
    (base : Nat) (e : TypeId) (i : TypeInfo) (ht : P.underlying t = some (.slice e)) (hi : P.info? e = some i) (hz : i.zero = some (.int .i64 0)) (hsize : i.size = 1) (hby : i.bytes = 8)
    (v : Value) (n : Nat) (xs : List Int) (hs : a.eval s = v) (hown : w.ownsRow base e 1 v n (nums xs))
    (y : Value) (zs : List Int) (hx : a.eval x = y) (hsrc : Nums w y zs) (h63 : n + zs.length ≤ 1000000) (hbase : base ≤ w.heap.size)
    (h : ∀ v' w', w'.ownsRow base e 1 v' (n + zs.length) (nums (xs ++ zs)) → w.grownBy w' v.ownBlock → K (a.put o.dst v') w') :
    if Region.wanted o (yielded ops a.tmps) = true then Oper.wp P o a w K Q else E := by
  have hw : Region.wanted o (yielded ops a.tmps) = true := by simp [Region.wanted, hgd]
  rw [if_pos hw]
  have hp := hsrc.src
  obtain ⟨h1, h2, sp, cap, rfl, h3, h4, h5⟩ := hsrc
  obtain ⟨sp', cap', e', hp⟩ := hp
  simp only [Value.slice.injEq] at e'
  obtain ⟨rfl, _, rfl⟩ := e'
  have key : ∃ v' w', (Builtin.append_ #[t, t] o.type #[v, .slice sp zs.length cap]).run P w = .ok v' w' ∧ w'.ownsRow base e 1 v' (n + zs.length) (nums (xs ++ zs)) ∧ w.grownBy w' v.ownBlock := by
    by_cases h0 : zs = []
    · subst h0
      rcases h5 with ⟨rfl, rfl⟩ | ⟨ad, rfl, _⟩
      · exact ⟨v, w, run_append_owned_none (P := P) (w := w) base t o.type e i 1 ht hi v n _ hown, by simpa using hown, World.grownBy.refl _ _⟩
      · obtain ⟨v', w', hr, k1, k2, _, _⟩ := run_append_own_at (P := P) w base t o.type e i (.int .i64 0) 1 8 ht hi hz hsize hby rfl (by decide) v n _ hown ad 0 cap (nums []) rfl (fun j u hu => by simp [nums] at hu) (nums_one []) (by unfold maxLen; omega) (by simp at h63; omega) hbase
        rw [← nums_append] at k1
        exact ⟨v', w', hr, k1, k2⟩
    · have hl : 0 < zs.length := by
        cases zs with
        | nil => exact absurd rfl h0
        | cons z r => simp
      obtain ⟨ad, rfl, hc⟩ := hp hl
      obtain ⟨v', w', hr, k1, k2, _, _⟩ := run_append_own_at (P := P) w base t o.type e i (.int .i64 0) 1 8 ht hi hz hsize hby rfl (by decide) v n _ hown ad zs.length cap (nums zs) (by rw [nums_length, Nat.mul_one]) hc (nums_one zs) (by unfold maxLen; omega) (by omega) hbase
      rw [← nums_append] at k1
      exact ⟨v', w', hr, k1, k2⟩
  obtain ⟨v', w', hr, k1, k2⟩ := key
  unfold Oper.wp
  simp [execOp, ho, resolve, invoke, builtin, hs, hx, hr, Result.andThen]
  exact h v' w' k1 k2
theorem Nums.grown {w w' : World} {v : Value} {zs : List Int} {row : Option Nat} (h : Nums w v zs) (hg : w.grownBy w' row) (hne : v.ownBlock ≠ row) : Nums w' v zs :=
  h.spared hg.size fun g hv hlt => hg.block g hlt (fun e => hne (hv.trans e))

/-! ### What is given -/
theorem goodG_sub {n : Nat} {B : Nat → Bool} {zs : List Int} (h : GoodG n B zs) (k : Nat) : GoodG n B (zs.take k) :=
  ⟨h.1.sublist (List.take_sublist _ _), fun z hz => h.2 z (List.mem_of_mem_take hz)⟩
theorem drop_not_take {zs : List Int} (h : zs.Nodup) (k : Nat) {z : Int} (hz : z ∈ zs.drop k) : z ∉ zs.take k := by
  intro ht
  rw [← List.take_append_drop k zs, List.nodup_append] at h
  exact h.2.2 z ht z hz rfl
theorem goodG_rest {n : Nat} {B : Nat → Bool} {zs : List Int} (h : GoodG n B zs) (k : Nat) : GoodG n (giveB B (zs.take k)) (zs.drop k) :=
  ⟨h.1.sublist (List.drop_sublist _ _), fun z hz => by
    obtain ⟨s, rfl, h2, h3⟩ := h.2 z (List.mem_of_mem_drop hz)
    exact ⟨s, rfl, h2, giveB_is h3 (drop_not_take h.1 k hz)⟩⟩
theorem give_which {n : Nat} {B : Nat → Bool} {zs : List Int} (h : GoodG n B zs) {i s k : Nat} (hi : i < zs.length) (hs : zs[i]?.getD 0 = (s : Int)) : giveB B (zs.take k) s = decide (k ≤ i) := by
  have hm : (s : Int) ∈ zs := by rw [← hs, List.getElem?_eq_getElem hi]; exact List.getElem_mem hi
  obtain ⟨t, h1, h2, h3⟩ := h.2 _ hm
  obtain rfl : t = s := by omega
  by_cases hk : k ≤ i
  · rw [decide_eq_true hk]
    refine giveB_is h3 (drop_not_take h.1 k ?_)
    refine List.mem_drop_iff_getElem.2 ⟨i - k, by omega, ?_⟩
    rw [List.getElem?_eq_getElem hi] at hs
    simp only [Option.getD_some] at hs
    simp only [show k + (i - k) = i by omega]
    exact hs
  · rw [decide_eq_false hk]
    have : (t : Int) ∈ zs.take k := by
      rw [← hs, List.getElem?_eq_getElem hi]
      exact List.mem_take_iff_getElem.2 ⟨i, by omega, rfl⟩
    unfold giveB
    rw [List.contains_iff_mem.2 this]
    simp
theorem not_twice {n : Nat} {B : Nat → Bool} {zs : List Int} (h0 : 0 < zs.length) : ¬ GoodG n B (zs ++ [zs[0]?.getD 0]) := by
  intro h
  have h1 := h.1
  rw [List.nodup_append] at h1
  have hm : zs[0]?.getD 0 ∈ zs := by rw [List.getElem?_eq_getElem h0]; exact List.getElem_mem h0
  exact h1.2.2 _ hm _ (List.mem_singleton.2 rfl) rfl
theorem not_again {n : Nat} {B : Nat → Bool} {zs : List Int} (k : Nat) (h0 : 0 < zs.length) : ¬ GoodG n (giveB (giveB B (zs.take k)) (zs.drop k)) [zs[0]?.getD 0] := by
  intro h
  obtain ⟨s, h1, h2, h3⟩ := h.2 _ (List.mem_singleton.2 rfl)
  have hm : (s : Int) ∈ zs := by rw [← h1, List.getElem?_eq_getElem h0]; exact List.getElem_mem h0
  obtain ⟨h4, h5⟩ := giveB_at h3
  obtain ⟨_, h6⟩ := giveB_at h4
  rw [← List.take_append_drop k zs, List.mem_append] at hm
  rcases hm with hm | hm
  · exact h6 hm
  · exact h5 hm
theorem cnt_half {n : Nat} {B : Nat → Bool} {zs : List Int} (h : GoodG n B zs) (k : Nat) (hk : k ≤ zs.length) : cnt (giveB B (zs.take k)) 0 n + k = cnt B 0 n := cnt_give h k hk
theorem cnt_rest {n : Nat} {B : Nat → Bool} {zs : List Int} (h : GoodG n B zs) (k : Nat) (hk : k ≤ zs.length) : cnt (giveB (giveB B (zs.take k)) (zs.drop k)) 0 n + zs.length = cnt B 0 n := by
  have h1 := cnt_give h k hk
  have h2 := cnt_give (goodG_rest h k) (zs.drop k).length (Nat.le_refl _)
  rw [List.take_length, List.length_drop] at h2
  omega

/-- What stands between two rounds of the first loop. -/
structure BackI (w : World) (q p b f cap m j : Nat) (B : Nat → Bool) (v : Value) (zs : List Int) (wr : World) : Prop where
  board : BoardAt wr q p b f cap m B
  good : GoodG m B zs
  len : zs.length = j
  num : cnt B 0 m = j
  own : wr.ownsRow w.heap.size 3 1 v j (nums zs)
  sep : v.ownBlock ≠ some f
  bel : Below w.heap.size w wr
theorem small_of {m : Nat} {B : Nat → Bool} {zs : List Int} (h : GoodG m B zs) (hm : m ≤ 65536) : ∀ z ∈ zs, I64 z := fun z hz => by
  obtain ⟨s, rfl, h2, _⟩ := h.2 z hz
  exact ⟨by omega, by omega⟩
theorem BackI.off_b {w wr : World} {q p b f cap m j : Nat} {B : Nat → Bool} {v : Value} {zs : List Int} (h : BackI w q p b f cap m j B v zs wr) : v.ownBlock ≠ some b := fun e => own_other h.own h.board.row.body (by decide) e.symm
theorem BackI.isNums {w wr : World} {q p b f cap m j : Nat} {B : Nat → Bool} {v : Value} {zs : List Int} (h : BackI w q p b f cap m j B v zs wr) : Nums wr v zs := Nums.ofOwn (by have := h.own; rwa [← h.len] at this) (small_of h.good h.board.row.small)
theorem BackI.step {w wr : World} {q p b f cap m j : Nat} {B : Nat → Bool} {v : Value} {zs : List Int} (h : BackI w q p b f cap m j B v zs wr) (ht : Steps w) (hb : w.heap.size ≤ b) (hf : w.heap.size ≤ f) (hj : j < m) :
    Calls Tryd.prog 11 #[.pointer (some ⟨q, 0, none⟩)] wr fun x w' => ∃ (s : Nat) (B' : Nat → Bool), x = .returned (.tuple #[.int .i64 (s : Nat), .int .i64 0]) ∧ s < 65536 ∧ BoardAt w' q p b f cap m B' ∧ GoodG m B' (zs ++ [(s : Int)]) ∧ cnt B' 0 m = j + 1 ∧ w'.ownsRow w.heap.size 3 1 v j (nums zs) ∧ Below w.heap.size w w' :=
  (take_any wr q p b f cap m B h.board (ht.kept h.bel ht.pos)).mono fun x w' hx => by
    have hsm := h.board.row.small
    rcases hx with ⟨s, rfl, h1, h2, h3⟩ | ⟨rfl, h1, rfl⟩
    · have hs := h1.lt
      refine ⟨s, _, rfl, by omega, h2, ⟨nodup_one h.good.1 ?_, ?_⟩, ?_, ?_, h.bel.trans (h3.below hb hf h.bel.size)⟩
      · intro hm
        obtain ⟨t, e, _, hBt⟩ := h.good.2 _ hm
        obtain rfl : s = t := by omega
        rw [h1.free] at hBt; cases hBt
      · intro z hz
        rcases List.mem_append.1 hz with hz | hz
        · obtain ⟨t, rfl, ht2, hBt⟩ := h.good.2 z hz
          refine ⟨t, rfl, ht2, ?_⟩
          by_cases e : t = s
          · rw [e, putB_at]
          · rw [putB_off _ e]; exact hBt
        · exact ⟨s, List.mem_singleton.1 hz, hs, putB_at _ _ _⟩
      · rw [cnt_put_in h1.free (Nat.zero_le _) (by omega), h.num]
      · exact ownsRow_same h.own fun g hg => h3.heap (h.own.lt g hg).2 (fun e => h.off_b (e ▸ hg)) (fun e => h.sep (e ▸ hg))
    · have := cnt_full h1
      have := h.num
      omega
theorem BackI.grow {w wr w7 : World} {q p b f cap m j s : Nat} {B : Nat → Bool} {v v7 : Value} {zs : List Int} {o : Obj} (hbd : BoardAt wr q p b f cap m B) (hg : GoodG m B (zs ++ [(s : Int)])) (hl : zs.length = j) (hn : cnt B 0 m = j + 1) (how : wr.ownsRow w.heap.size 3 1 v j (nums zs)) (hsep : v.ownBlock ≠ some f) (hbe : Below w.heap.size w wr)
    (hown : w7.ownsRow w.heap.size 3 1 v7 (j + 1) (nums (zs ++ [(s : Int)]))) (hgr : (wr.alloc o).grownBy w7 v.ownBlock) (hat : v7.ownBlock = v.ownBlock ∨ v7.ownBlock = some (wr.alloc o).heap.size) : BackI w q p b f cap m (j + 1) B v7 (zs ++ [(s : Int)]) w7 := by
  have old : ∀ k C (t : TypeId) (fr : Nat × Nat), wr.heap[k]? = some (.cells C t fr) → some k ≠ v.ownBlock → w7.heap[k]? = wr.heap[k]? := fun k C t fr hk hne => (hgr.block k (by simp; exact Nat.lt_succ_of_lt (lt_of_heap hk)) hne).trans (heap_alloc_old wr o (lt_of_heap hk))
  have hs := hbe.size
  obtain ⟨cur, h2, h3⟩ := hbd.nums
  refine ⟨hbd.same (old _ _ _ _ hbd.head (own_other how hbd.head (by decide))) (old _ _ _ _ hbd.row.head (own_other how hbd.row.head (by decide))) (old _ _ _ _ hbd.row.body (own_other how hbd.row.body (by decide))) (old _ _ _ _ h2 (fun e => hsep e.symm)), hg, by simp [hl], hn, hown, ?_, grewAny (hbe.alloc hs o) (how.alloc o) hgr (by simp; exact Nat.le_succ_of_le hs)⟩
  rcases hat with e | e
  · rw [e]; exact hsep
  · rw [e]
    have := hbd.nums.lt
    simp
    omega
set_option maxRecDepth 20000 in
set_option maxHeartbeats 16000000 in
theorem slotsBack_walk (n : Int) (k : Int) (w : World) (ht : Steps w) (f0 : (Lit.int .i64 n).wf = true) (f1 : (Lit.int .i64 k).wf = true) :
    Calls Tryd.prog 6 #[.int .i64 n, .int .i64 k] w fun e w' => e = .returned (.bool true) ∧ Below w.heap.size w w' := by
  have hn : I64 n := by simpa [Lit.wf, IntKind.min, IntKind.max, IntKind.signed, IntKind.bits, I64] using f0
  have hk : I64 k := by simpa [Lit.wf, IntKind.min, IntKind.max, IntKind.signed, IntKind.bits, I64] using f1
  obtain ⟨i0, hi, hz0, hz1, hz2⟩ := info_parts Tryd.infoI64
  obtain ⟨r, hr, hr5⟩ := mod_any n 150 (by decide) (by decide) hn
  obtain ⟨m, hm⟩ : ∃ m, m = 2 + r := ⟨_, rfl⟩
  have HM : Hid (wrap64 (2 + (wrap64 (n.tmod 150 + 150)).tmod 150) = (m : Int)) := by
    unfold Hid
    have e1 : (wrap64 (n.tmod 150 + 150)).tmod 150 = (r : Int) := hr
    rw [e1, show (2 : Int) + (r : Int) = ((m : Nat) : Int) by omega, wrap_nat m (by omega)]
  obtain ⟨r2, hr2, hr6⟩ := mod_any k m (by omega) (by omega) hk
  obtain ⟨T, hT⟩ : ∃ T, T = 1 + r2 := ⟨_, rfl⟩
  have HTK : Hid (wrap64 (1 + (wrap64 (k.tmod (m : Int) + (m : Int))).tmod (m : Int)) = (T : Int)) := by
    unfold Hid
    rw [hr2, show (1 : Int) + (r2 : Int) = ((T : Nat) : Int) by omega, wrap_nat T (by omega)]
  have hm1 : 2 ≤ m ∧ m ≤ 151 := by omega
  have hT1 : 1 ≤ T ∧ T ≤ m := by omega
  have HT : Hid (Steps w) := ht
  have H0 : Hid (0 < w.heap.size) := ht.pos
  have HAw : Hid (Calls Tryd.prog 7 #[] w fun x w' => x = .returned (.bool true) ∧ Below w.heap.size w w') := awake_any w ht
  have hmz : ((m : Nat) : Int) ≠ 0 := by omega
  clear hr hr5 hr2 hr6 hT hm f0 f1 ht hn hk
  go_enter Tryd.func6, Tryd.ntmps6
  go_wp2_with fail
  refine HAw.out.mono ?_
  rintro e w1 ⟨rfl, hB⟩
  have HB : Hid (Below w.heap.size w w1) := hB
  have HN : Hid (Calls Tryd.prog 8 #[.int .i64 (m : Nat), .slice none 0 0] w1 fun x w' => ∃ q p b f cap, x = .returned (.tuple #[.pointer (some ⟨q, 0, none⟩), .int .i64 0]) ∧ w1.heap.size ≤ b ∧ w1.heap.size ≤ f ∧ BoardAt w' q p b f cap m noneB ∧ Below w1.heap.size w1 w') := newB_empty w1 m (by omega) (by omega) (HT.out.below hB)
  clear hB
  go_wp2_with fail
  rw [HM.out]
  refine HN.out.mono ?_
  rintro e w2 ⟨q, p, b, f, cap, rfl, hb, hf, hBd, hB⟩
  have HP : Hid (w.heap.size ≤ b ∧ w.heap.size ≤ f) := ⟨Nat.le_trans HB.out.size hb, Nat.le_trans HB.out.size hf⟩
  have HP0 : Hid (0 < b ∧ 0 < f) := by have h1 := H0.out; have h2 := HP.out; exact ⟨by omega, by omega⟩
  have HI : Hid (BackI w q p b f cap m 0 noneB (.slice none 0 0) [] w2) := ⟨hBd, goodG_nil _ _, rfl, cnt_none fun _ _ => rfl, World.ownsRow_nil _ _ _ _, by simp [Value.ownBlock], HB.out.trans (hB.mono HB.out.size)⟩
  clear hBd hB hb hf HB HN HAw HM
  go_wp2_with fail
  rw [HTK.out]
  clear HTK
  go_loopw [9, 10] (fun v i wr => ∃ (j : Nat) (B : Nat → Bool) (zs : List Int), i = .int .i64 (j : Nat) ∧ j ≤ T ∧ Hid (BackI w q p b f cap m j B v zs wr)) (fun _ i _ => T - (intOf i).toNat)
  case atStart => exact ⟨0, noneB, [], rfl, Nat.zero_le _, HI⟩
  case round =>
    obtain ⟨j, B, zs, rfl, hj, hI⟩ := hrel
    by_cases hlt : j < T
    · have HK : Hid (Calls Tryd.prog 11 #[.pointer (some ⟨q, 0, none⟩)] wr fun x w' => ∃ (s : Nat) (B' : Nat → Bool), x = .returned (.tuple #[.int .i64 (s : Nat), .int .i64 0]) ∧ s < 65536 ∧ BoardAt w' q p b f cap m B' ∧ GoodG m B' (zs ++ [(s : Int)]) ∧ cnt B' 0 m = j + 1 ∧ w'.ownsRow w.heap.size 3 1 u9 j (nums zs) ∧ Below w.heap.size w w') := hI.out.step HT.out HP.out.1 HP.out.2 (by omega)
      go_wp2_with fail
      refine HK.out.mono ?_
      rintro e w3 ⟨s, B3, rfl, hs16, k1, k2, k3, k4, k5⟩
      have K1 : Hid (BoardAt w3 q p b f cap m B3) := k1
      have K2 : Hid (GoodG m B3 (zs ++ [(s : Int)])) := k2
      have K3 : Hid (cnt B3 0 m = j + 1) := k3
      have K4 : Hid (w3.ownsRow w.heap.size 3 1 u9 j (nums zs)) := k4
      have K5 : Hid (Below w.heap.size w w3) := k5
      clear k1 k2 k3 k4 k5 HK
      have HSZ : Hid (w.heap.size ≤ w3.heap.size) := K5.out.size
      have HLJ : Hid (zs.length = j) := hI.out.len
      have HSP : Hid (u9.ownBlock ≠ some f) := hI.out.sep
      go_wp2_with (at_builtin; (refine wpList_append_nums _ rfl _ _ 22 rfl w.heap.size 3 i0 Tryd.underlying22 hi hz0 hz1 hz2 u9 j zs rfl (K4.out.alloc _) _ [(s : Int)] rfl (Nums.one ⟨by omega, by omega⟩) ?d1 ?d2 ?_; (case d1 => simp; omega); (case d2 => simp; exact Nat.le_succ_of_le HSZ.out); intro v7 w7 hown7 hg7 hat7; have HI7 : Hid (BackI w q p b f cap m (j + 1) B3 v7 (zs ++ [(s : Int)]) w7) := BackI.grow K1.out K2.out HLJ.out K3.out K4.out HSP.out K5.out hown7 hg7 hat7; clear hown7 hg7 hat7))
      go_roundw
      case rel => exact ⟨j + 1, B3, zs ++ [(s : Int)], by go_num, by omega, HI7⟩
      case measure => simp [intOf]; omega
    · obtain rfl : j = T := by omega
      have hdj : (j < j) = False := eq_false (by omega)
      have HLen : Hid (zs.length = j) := hI.out.len
      obtain ⟨aL, cL, hsh⟩ := hI.out.isNums.shape
      rw [HLen.out] at hsh
      subst hsh
      have HNU : Hid (Nums wr (.slice aL j cL) zs) := hI.out.isNums
      obtain ⟨gL, oL, rfl, hgl, hcell⟩ := HNU.out.addr (by omega)
      have HCELL : Hid (∀ i, i < j → wr.cell? ⟨gL, oL + i, none⟩ = some (.int .i64 (zs[i]?.getD 0))) := hcell
      have hc0 := hcell 0 (by omega)
      have HNB : Hid (gL ≠ b ∧ gL ≠ f) := ⟨fun e => hI.out.off_b (by simp [Value.ownBlock, e]), fun e => hI.out.sep (by simp [Value.ownBlock, e])⟩
      have HBD : Hid (BoardAt wr q p b f cap m B) := hI.out.board
      have HG : Hid (GoodG m B zs) := hI.out.good
      have HNM : Hid (cnt B 0 m = j) := hI.out.num
      have HBE : Hid (Below w.heap.size w wr) := hI.out.bel
      have hz0s := HNU.out.small 0
      have HZ0 : Hid (I64 (zs[0]?.getD 0)) := hz0s
      have HST : Hid (Steps wr) := HT.out.kept HBE.out H0.out
      clear hcell hI hgl hlt hj hz0s
      have hc00 : wr.cell? ⟨gL, oL, none⟩ = some (.int .i64 (zs[0]?.getD 0)) := by simpa using hc0
      clear hc0
      have hcl := HNU.out.capLe
      have hcm : cL ≤ 9223372036854775807 := by unfold maxLen at hcl; omega
      have HKEEP : Hid (∀ W, Below wr.heap.size wr W → BoardAt W q p b f cap m B ∧ Nums W (.slice (some ⟨gL, oL, none⟩) j cL) zs ∧ Below w.heap.size w W) := fun W hW => ⟨HBD.out.below hW, HNU.out.kept hW, HBE.out.trans (hW.mono HBE.out.size)⟩
      have HGIVE : Hid (∀ (W : World) (V : Value) (ys : List Int) (C : Nat → Bool), BoardAt W q p b f cap m C → Below w.heap.size w W → Nums W V ys → V.ownBlock ≠ some b → V.ownBlock ≠ some f → Nums W (.slice (some ⟨gL, oL, none⟩) j cL) zs →
          Calls Tryd.prog 15 #[.pointer (some ⟨q, 0, none⟩), V] W fun x w' => ((GoodG m C ys ∧ x = .returned (.int .i64 0) ∧ BoardAt w' q p b f cap m (giveB C ys)) ∨ (¬ GoodG m C ys ∧ x = .returned (.int .i64 2) ∧ BoardAt w' q p b f cap m C)) ∧ Nums w' (.slice (some ⟨gL, oL, none⟩) j cL) zs ∧ Below w.heap.size w w') := fun W V ys C hbd hbe hnu h1 h2 hl =>
        (give_any W q p b f cap m C V ys hbd (HT.out.kept hbe H0.out) hnu h1 h2 HP0.out).mono fun x w' hx => ⟨hx.1, hl.only2 hx.2 (by simp [Value.ownBlock, HNB.out.1]) (by simp [Value.ownBlock, HNB.out.2]), hbe.trans (hx.2.below HP.out.1 HP.out.2 hbe.size)⟩
      have HFREE : Hid (∀ (W : World) (C : Nat → Bool), BoardAt W q p b f cap m C → Calls Tryd.prog 18 #[.pointer (some ⟨q, 0, none⟩)] W fun x w' => x = .returned (.int .i64 (m - cnt C 0 m : Nat)) ∧ ∃ y, w' = W.drewN y) := fun W C h => free_any W q p b f cap m C h
      have HNT : Hid (¬ GoodG m B (zs ++ [zs[0]?.getD 0])) := not_twice (by rw [HLen.out]; omega)
      have HBF : Hid (b < wr.heap.size ∧ f < wr.heap.size) := ⟨HBD.out.row.b_lt, HBD.out.nums.lt⟩
      have HSM : Hid (∀ z ∈ zs ++ [zs[0]?.getD 0], I64 z) := fun z hz => by
        rcases List.mem_append.1 hz with h | h
        · exact HNU.out.1 z h
        · rw [List.mem_singleton.1 h]; exact HZ0.out
      have HGT : Hid (∀ (W : World) (V : Value), Below wr.heap.size wr W → W.ownsRow wr.heap.size 3 1 V (0 + zs.length + [zs[0]?.getD 0].length) (nums ([] ++ zs ++ [zs[0]?.getD 0])) →
          Calls Tryd.prog 15 #[.pointer (some ⟨q, 0, none⟩), V] W fun x w' => x = .returned (.int .i64 2) ∧ BoardAt w' q p b f cap m B ∧ Nums w' (.slice (some ⟨gL, oL, none⟩) j cL) zs ∧ Below w.heap.size w w') := fun W V hW hown => by
        obtain ⟨k1, k2, k3⟩ := HKEEP.out W hW
        have hBF := HBF.out
        refine (HGIVE.out W V (zs ++ [zs[0]?.getD 0]) B k1 k3 (Nums.ofOwn hown HSM.out) (fun e => by have := (hown.lt b e).1; omega) (fun e => by have := (hown.lt f e).1; omega) k2).mono ?_
        rintro x w' ⟨⟨h, _, _⟩ | ⟨_, rfl, h2⟩, h3, h4⟩
        · exact absurd h HNT.out
        · exact ⟨rfl, h2, h3, h4⟩
      have HFm : Hid (m - cnt B 0 m = m - j) := by unfold Hid; rw [HNM.out]
      have hmj : ((m : Nat) : Int) - (j : Nat) = ((m - j : Nat) : Int) := by omega
      have hLL : zs.length ≤ 151 := by rw [HLen.out]; omega
      have HC0 : Hid (∀ W, Nums W (.slice (some ⟨gL, oL, none⟩) j cL) zs → World.cell? W ⟨gL, oL, none⟩ = some (.int .i64 (zs[0]?.getD 0))) := fun W hW => by
        obtain ⟨g', o', e, -, h⟩ := hW.addr (by omega)
        simp only [Option.some.injEq, Addr.mk.injEq, and_true] at e
        obtain ⟨rfl, rfl⟩ := e
        simpa using h 0 (by omega)
      have HLL : Hid (zs.length ≤ 151) := hLL
      have HZZ : Hid (∀ W (o : TypeId), Nums (World.alloc W (.cells #[.int .i64 (zs[0]?.getD 0)] o)) (.slice (some ⟨W.heap.size, 0, none⟩) 1 1) [zs[0]?.getD 0]) := fun W o => Nums.one HZ0.out
      generalize hz0e : zs[0]?.getD 0 = z0 at *
      have HZE : Hid (zs[0]?.getD 0 = z0) := hz0e
      have H2W : Hid (∀ w5, (World.alloc (wr.alloc (.cells #[] 3)) (.cells #[.int .i64 z0] 3)).drew.grownBy w5 (some wr.heap.size) → Nums w5 (.slice (some ⟨wr.heap.size + 1, 0, none⟩) 1 1) [z0]) := fun w5 hg => by
        have h1 := HZZ.out (wr.alloc (.cells #[] 3)) 3
        rw [show (World.alloc wr (.cells #[] 3)).heap.size = wr.heap.size + 1 by simp] at h1
        exact (h1.kept (Below.refl _ _).drew).grown hg (by simp [Value.ownBlock])
      have H3W : Hid (∀ w5, (World.alloc (wr.alloc (.cells #[.int .i64 z0] 3)) (.cells #[] 3)).drew.grownBy w5 (some (wr.heap.size + 1)) → Nums w5 (.slice (some ⟨wr.heap.size, 0, none⟩) 1 1) [z0]) := fun w5 hg => by
        have h1 := (HZZ.out wr 3).alloc (.cells #[] 3)
        exact (h1.kept (Below.refl _ _).drew).grown hg (by simp [Value.ownBlock])
      have OW3 : Hid ((World.alloc (wr.alloc (.cells #[.int .i64 z0] 3)) (.cells #[] 3)).drew.ownsRow wr.heap.size 3 1 (.slice (some ⟨wr.heap.size + 1, 0, none⟩) 0 0) 0 (nums [])) := by
        have h1 := World.ownsRow_made (base := wr.heap.size) (e := 3) (size := 1) (wr.alloc (.cells #[.int .i64 z0] 3)) #[] 0 (by simp) (by decide) rfl
        rw [show (World.alloc wr (.cells #[.int .i64 z0] 3)).heap.size = wr.heap.size + 1 by simp] at h1
        exact h1
      have BE3 : Hid (Below wr.heap.size wr (World.alloc (wr.alloc (.cells #[.int .i64 z0] 3)) (.cells #[] 3)).drew) := (((Below.refl _ _).alloc (Nat.le_refl _) _).alloc (by simp) _).drew
      generalize hfr : m - j = F0 at *
      have hF0 : F0 ≤ 151 := by omega
      have hj0 : 0 < j := by omega
      have hwF : IntKind.i64.wrap ((F0 : Nat) : Int) = (F0 : Nat) := by rw [IntKind.wrap_i64]; omega
      have hwF2 : IntKind.i64.wrap (((m : Nat) : Int) - (j : Nat)) = (F0 : Nat) := by rw [hmj]; exact hwF
      clear hz0e hLL
      go_wp2_with fail
      go_region_held3 (fun w' => w'.cell? ⟨gL, oL, none⟩ = some (.int .i64 z0)) (first | exact hc00 | exact HC0.out _ (HKEEP.out _ (Below.refl _ _).drew).2.1 | exact HC0.out _ (HKEEP.out _ ((Below.refl _ _).drew.alloc (Nat.le_refl _) _)).2.1 | exact HC0.out _ (HKEEP.out _ (((Below.refl _ _).drew.alloc (Nat.le_refl _) _).alloc (by simp) _)).2.1 | exact HC0.out _ HN8.out | exact HC0.out _ HN9.out | exact HC0.out _ (HKEEP.out _ HB7.out).2.1 | exact HC0.out _ (HKEEP.out _ HB5.out).2.1 | exact HC0.out _ (HKEEP.out _ (HB5.out.alloc HB5.out.size _)).2.1) (first
        | (refine step_append_nums (by rfl) _ _ 22 (by rfl) wr.heap.size 3 i0 Tryd.underlying22 hi hz0 hz1 hz2 _ 0 [] (by rfl) (by first | exact OW3.out | exact World.ownsRow_made _ #[] 0 (by simp) (by decide) rfl | exact (World.ownsRow_made _ #[] 0 (by simp) (by decide) rfl).alloc _) _ zs (by rfl) (HNU.out.kept (by first | exact BE3.out | exact (Below.refl _ _).drew.alloc (Nat.le_refl _) _ | exact ((Below.refl _ _).drew.alloc (Nat.le_refl _) _).alloc (by simp) _)) (by have := HLL.out; omega) (by simp; try omega) ?_
           intro v5 w5 hown5 hg5
           have HB5 : Hid (Below wr.heap.size wr w5) := grewAny (by first | exact BE3.out | exact (Below.refl _ _).drew.alloc (Nat.le_refl _) _ | exact ((Below.refl _ _).drew.alloc (Nat.le_refl _) _).alloc (by simp) _) (by first | exact OW3.out | exact World.ownsRow_made _ #[] 0 (by simp) (by decide) rfl | exact (World.ownsRow_made _ #[] 0 (by simp) (by decide) rfl).alloc _) hg5 (by simp; try omega)
           have HG5 : Hid (World.grownBy _ w5 _) := hg5)
        | (refine step_append_nums (by rfl) _ _ 22 (by rfl) wr.heap.size 3 i0 Tryd.underlying22 hi hz0 hz1 hz2 v5 (0 + zs.length) ([] ++ zs) (by rfl) (by first | exact hown5 | exact hown5.alloc _) _ [z0] (by rfl) (by first | exact HZZ.out _ _ | exact H2W.out _ hg5 | exact H3W.out _ hg5) (by have := HLL.out; simp; omega) (by first | exact HB5.out.size | (simp; exact Nat.le_succ_of_le HB5.out.size)) ?_
           intro v7 w7 hown7 hg7
           have HB7 : Hid (Below wr.heap.size wr w7) := (by first | exact grewAny HB5.out hown5 hg7 HB5.out.size | exact grewAny (HB5.out.alloc HB5.out.size _) (hown5.alloc _) hg7 (by simp; exact Nat.le_succ_of_le HB5.out.size)))
        | (go_at_call 15; refine (HGT.out w7 v7 HB7.out hown7).mono ?_; rintro e8 w8 ⟨rfl, hd8, hn8, hb8⟩; have HD8 : Hid (BoardAt w8 q p b f cap m B) := hd8; have HN8 : Hid (Nums w8 (.slice (some ⟨gL, oL, none⟩) j cL) zs) := hn8; have HB8 : Hid (Below w.heap.size w w8) := hb8; clear hd8 hn8 hb8)
        | (go_at_call 18; refine (HFREE.out w8 B HD8.out).mono ?_; rintro e9 w9 ⟨rfl, y9, rfl⟩; rw [HFm.out]; have HN9 : Hid (Nums (w8.drewN y9) (.slice (some ⟨gL, oL, none⟩) j cL) zs) := HN8.out.kept (below_drewN w8 y9)))
      all_goals
        have HD9 : Hid (BoardAt (w8.drewN y9) q p b f cap m B) := HD8.out.drewN _
        have HB9 : Hid (Below w.heap.size w (w8.drewN y9)) := HB8.out.trans ((below_drewN w8 y9).mono HB8.out.size)
        clear HB5 HB7 hown5 hown7 hg5 hg7 HG5 HD8 HN8 HB8 H2W H3W OW3 BE3 HZZ HC0 HGT HKEEP HFm HCELL HSM HST
        generalize hW9 : World.drewN w8 y9 = W9 at *
        clear hW9
        have hq : ((j : Nat) : Int).tdiv 2 = ((j / 2 : Nat) : Int) := Int.ofNat_tdiv j 2
        obtain ⟨h, hh⟩ : ∃ h, h = j / 2 := ⟨_, rfl⟩
        rw [← hh] at hq
        have hhj : h < j := by omega
        have hhc : (h : Int) ≤ cL := by omega
        have hcne : (cL = h) = False := eq_false (by omega)
        have hhm : h ≤ 151 := by omega
        obtain ⟨F1, hF1⟩ : ∃ F1, F1 = F0 + h := ⟨_, rfl⟩
        have hF1b : F1 ≤ 302 := by omega
        have hF1e : ((F0 : Nat) : Int) + (h : Nat) = (F1 : Nat) := by omega
        have HV1 : Hid (Calls Tryd.prog 15 #[.pointer (some ⟨q, 0, none⟩), .slice (some ⟨gL, oL, none⟩) h cL] W9 fun x w' => x = .returned (.int .i64 0) ∧ BoardAt w' q p b f cap m (giveB B (zs.take h)) ∧ Nums w' (.slice (some ⟨gL, oL, none⟩) j cL) zs ∧ Below w.heap.size w w') :=
          (HGIVE.out W9 _ (zs.take h) B HD9.out HB9.out (HN9.out.front (by omega)) (by simp [Value.ownBlock, HNB.out.1]) (by simp [Value.ownBlock, HNB.out.2]) HN9.out).mono (by
            rintro x w' ⟨⟨_, rfl, h2⟩ | ⟨h1, _, _⟩, h3, h4⟩
            · exact ⟨rfl, h2, h3, h4⟩
            · exact absurd (goodG_sub HG.out h) h1)
        have HCN : Hid (m - cnt (giveB B (zs.take h)) 0 m = F1) := by
          have h1 := cnt_half HG.out h (by rw [HLen.out]; omega)
          have h2 := HNM.out
          unfold Hid
          omega
        clear hh hF1 hfr
        go_wp2_with fail
        refine HV1.out.mono ?_
        rintro e10 w10 ⟨rfl, a1, a2, a3⟩
        have HD10 : Hid (BoardAt w10 q p b f cap m (giveB B (zs.take h))) := a1
        have HN10 : Hid (Nums w10 (.slice (some ⟨gL, oL, none⟩) j cL) zs) := a2
        have HB10 : Hid (Below w.heap.size w w10) := a3
        clear a1 a2 a3 HV1 HD9 HN9 HB9
        go_wp2_with fail
        refine (HFREE.out w10 _ HD10.out).mono ?_
        rintro e11 w11 ⟨rfl, y11, rfl⟩
        rw [HCN.out]
        have HD11 : Hid (BoardAt (w10.drewN y11) q p b f cap m (giveB B (zs.take h))) := HD10.out.drewN _
        have HN11 : Hid (Nums (w10.drewN y11) (.slice (some ⟨gL, oL, none⟩) j cL) zs) := HN10.out.kept (below_drewN w10 y11)
        have HB11 : Hid (Below w.heap.size w (w10.drewN y11)) := HB10.out.trans ((below_drewN w10 y11).mono HB10.out.size)
        generalize hW11 : World.drewN w10 y11 = W11 at *
        clear hW11 HD10 HN10 HB10
        have HCELL : Hid (∀ i, i < j → W11.cell? ⟨gL, oL + i, none⟩ = some (.int .i64 (zs[i]?.getD 0))) := fun i hi => by
          obtain ⟨g', o', e, -, h⟩ := HN11.out.addr (by omega)
          simp only [Option.some.injEq, Addr.mk.injEq, and_true] at e
          obtain ⟨rfl, rfl⟩ := e
          exact h i hi
        have HIS : Hid (∀ i, i < j → Calls Tryd.prog 22 #[.pointer (some ⟨q, 0, none⟩), .int .i64 (zs[i]?.getD 0)] W11 fun x w' => x = .returned (.bool (decide (h ≤ i))) ∧ w' = W11) := fun i hi => by
          have hil : i < zs.length := by rw [HLen.out]; exact hi
          obtain ⟨s, h1, h2, h3⟩ := HG.out.2 zs[i] (List.getElem_mem hil)
          have hz : zs[i]?.getD 0 = (s : Int) := by rw [List.getElem?_eq_getElem hil]; exact h1
          have := is_any W11 q p b f cap m _ (zs[i]?.getD 0) HD11.out
          rw [hz, Int.toNat_natCast, give_which HG.out hil hz, decide_eq_true (show (0 : Int) ≤ (s : Int) ∧ (s : Int) < (m : Int) from ⟨by omega, by omega⟩), Bool.true_and] at this
          rw [hz]; exact this
        go_wp2_with fail
        go_loop [14] (fun i => ∃ a : Nat, i = .int .i64 (a : Nat) ∧ a ≤ j) (fun i => j - (intOf i).toNat)
        case atStart => exact ⟨0, rfl, Nat.zero_le _⟩
        case round =>
          obtain ⟨a, rfl, haj⟩ := hrel
          by_cases hlt : a < j
          · have hcell := HCELL.out a hlt
            have HISa : Hid (Calls Tryd.prog 22 #[.pointer (some ⟨q, 0, none⟩), .int .i64 (zs[a]?.getD 0)] W11 fun x w' => x = .returned (.bool (decide (h ≤ a))) ∧ w' = W11) := HIS.out a hlt
            generalize zs[a]?.getD 0 = z at *
            by_cases hha : h ≤ a
            · rw [decide_eq_true hha] at HISa
              go_wp2_with fail
              refine HISa.out.mono ?_
              rintro e w12 ⟨rfl, rfl⟩
              go_wp2
              go_round
              case rel => exact ⟨a + 1, by go_num, by omega⟩
              case measure => simp [intOf]; omega
            · rw [decide_eq_false hha] at HISa
              go_wp2_with fail
              refine HISa.out.mono ?_
              rintro e w12 ⟨rfl, rfl⟩
              go_wp2
              go_round
              case rel => exact ⟨a + 1, by go_num, by omega⟩
              case measure => simp [intOf]; omega
          · have HNr : Hid (Nums W11 (.slice (some ⟨gL, oL + h, none⟩) (j - h) (cL - h)) (zs.drop h)) := HN11.out.back hhj (by omega) (by have := HN11.out.capLe; omega)
            have HV2 : Hid (Calls Tryd.prog 15 #[.pointer (some ⟨q, 0, none⟩), .slice (some ⟨gL, oL + h, none⟩) (j - h) (cL - h)] W11 fun x w' => x = .returned (.int .i64 0) ∧ BoardAt w' q p b f cap m (giveB (giveB B (zs.take h)) (zs.drop h)) ∧ Nums w' (.slice (some ⟨gL, oL, none⟩) j cL) zs ∧ Below w.heap.size w w') :=
              (HGIVE.out W11 _ (zs.drop h) _ HD11.out HB11.out HNr.out (by simp [Value.ownBlock, HNB.out.1]) (by simp [Value.ownBlock, HNB.out.2]) HN11.out).mono (by
                rintro x w' ⟨⟨_, rfl, h2⟩ | ⟨h1, _, _⟩, h3, h4⟩
                · exact ⟨rfl, h2, h3, h4⟩
                · exact absurd (goodG_rest HG.out h) h1)
            have HCE : Hid (m - cnt (giveB (giveB B (zs.take h)) (zs.drop h)) 0 m = m) := by
              have h1 := cnt_rest HG.out h (by rw [HLen.out]; omega)
              have h2 := HNM.out
              have h3 := HLen.out
              unfold Hid
              omega
            have HNA : Hid (¬ GoodG m (giveB (giveB B (zs.take h)) (zs.drop h)) [z0]) := by
              have := not_again (n := m) (B := B) (zs := zs) h (by rw [HLen.out]; omega)
              rwa [HZE.out] at this
            have hm151 : m ≤ 151 := hm1.2
            clear HCELL HIS HD11 HN11 HB11 HNr
            go_wp2_with fail
            refine HV2.out.mono ?_
            rintro e12 w12 ⟨rfl, a1, a2, a3⟩
            have HD12 : Hid (BoardAt w12 q p b f cap m (giveB (giveB B (zs.take h)) (zs.drop h))) := a1
            have HN12 : Hid (Nums w12 (.slice (some ⟨gL, oL, none⟩) j cL) zs) := a2
            have HB12 : Hid (Below w.heap.size w w12) := a3
            clear a1 a2 a3 HV2
            go_wp2_with fail
            refine (HFREE.out w12 _ HD12.out).mono ?_
            rintro e13 w13 ⟨rfl, y13, rfl⟩
            rw [HCE.out]
            have HD13 : Hid (BoardAt (w12.drewN y13) q p b f cap m (giveB (giveB B (zs.take h)) (zs.drop h))) := HD12.out.drewN _
            have HN13 : Hid (Nums (w12.drewN y13) (.slice (some ⟨gL, oL, none⟩) j cL) zs) := HN12.out.kept (below_drewN w12 y13)
            have HB13 : Hid (Below w.heap.size w (w12.drewN y13)) := HB12.out.trans ((below_drewN w12 y13).mono HB12.out.size)
            generalize hW13 : World.drewN w12 y13 = W13 at *
            clear hW13 HD12 HN12 HB12
            have hc13 : W13.cell? ⟨gL, oL, none⟩ = some (.int .i64 z0) := by
              obtain ⟨g', o', e, -, h⟩ := HN13.out.addr (by omega)
              simp only [Option.some.injEq, Addr.mk.injEq, and_true] at e
              obtain ⟨rfl, rfl⟩ := e
              have := h 0 (by omega)
              rw [HZE.out] at this
              simpa using this
            have HV3 : Hid (∀ o : TypeId, Calls Tryd.prog 15 #[.pointer (some ⟨q, 0, none⟩), .slice (some ⟨W13.heap.size, 0, none⟩) 1 1] (W13.alloc (.cells #[.int .i64 z0] o)) fun x w' => x = .returned (.int .i64 2) ∧ Below w.heap.size w w') := fun o => by
              have hb := HD13.out.row.b_lt
              have hf := HD13.out.nums.lt
              have hal : Below W13.heap.size W13 (W13.alloc (.cells #[.int .i64 z0] o)) := (Below.refl _ _).alloc (Nat.le_refl _) _
              refine (HGIVE.out _ _ [z0] _ (HD13.out.below hal) (HB13.out.trans (hal.mono HB13.out.size)) (Nums.one HZ0.out) (by simp [Value.ownBlock]; omega) (by simp [Value.ownBlock]; omega) (HN13.out.kept hal)).mono ?_
              rintro x w' ⟨⟨h, _, _⟩ | ⟨_, rfl, _⟩, _, h4⟩
              · exact absurd h HNA.out
              · exact ⟨rfl, h4⟩
            clear HD13 HN13 HGIVE HFREE
            go_wp2_with fail
            refine (HV3.out _).mono ?_
            rintro e14 w14 ⟨rfl, a4⟩
            have HB14 : Hid (Below w.heap.size w w14) := a4
            clear a4
            go_wp2
            go_ret
            exact ⟨rfl, HB14.out⟩
end Go.Proofs.YthpodknhidgedaaDoor
