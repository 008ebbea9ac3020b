/- The law OverlayParts. -/
import Derived.Test.YtjhkcdnfnmglhaaDoorInv12
import Derived.Test.YtjhkcdnfnmglhaaDoorJ2
import Derived.Deep.WholeRow
import Derived.Deep.CutBlock
namespace Go.Proofs.YtjhkcdnfnmglhaaDoor
open Go.RowKit
set_option linter.unusedVariables false
set_option maxRecDepth 20000

theorem Tryd.zeroSeen12 (w : World) : (zeroValue 38).run Tryd.prog w = .ok (.agg (boolL noneB 12).toArray) w := (zero_of_info (n := 12) (by kernel_rfl)).1 w
theorem boolL_put12 (B : Nat → Bool) (n a : Nat) (c : Bool) (ha : a < n) : (boolL B n).toArray.setIfInBounds a (Value.bool c) = (boolL (putB B a 1 c) n).toArray := by
  apply Array.ext_getElem?
  intro i
  rw [Array.getElem?_setIfInBounds]
  by_cases hi : a = i
  · subst hi
    rw [if_pos rfl, if_pos (by simp [boolL_length, ha]), boolL_at _ _ _ ha, putB_at]
  · rw [if_neg hi]
    by_cases hl : i < n
    · rw [boolL_at _ _ _ hl, boolL_at _ _ _ hl, putB_off c (fun e => hi e.symm)]
    · rw [Array.getElem?_eq_none (by simp [boolL_length]; omega), Array.getElem?_eq_none (by simp [boolL_length]; omega)]
def Seen12 (w : World) (g : Nat) (B : Nat → Bool) : Prop := w.heap[g]? = some (.cells (boolL B 12).toArray 38 (0, 0))
theorem Seen12.cell {w : World} {g : Nat} {B : Nat → Bool} (h : Seen12 w g B) (i : Nat) (hi : i < 12) : w.cell? ⟨g, i, none⟩ = some (.bool (B i)) := by
  rw [cell_of_row w g _ _ _ _ h, boolL_at B _ i hi]
theorem Seen12.cold {w : World} {g : Nat} {B : Nat → Bool} (h : Seen12 w g B) (i : Nat) : w.frozen? ⟨g, i, none⟩ = false := by
  have h' : w.heap[g]? = some (.cells (boolL B 12).toArray 38 (0, 0)) := h
  simp [World.frozen?, h']
theorem Seen12.put {w : World} {g : Nat} {B : Nat → Bool} (h : Seen12 w g B) (i : Nat) (hi : i < 12) : Seen12 (w.setCell ⟨g, i, none⟩ (.bool true)) g (putB B i 1 true) := by
  have := heap_set_row h i (.bool true)
  rwa [boolL_put12 B 12 i true hi] at this
/-- An element of a list without doubles isn't among those ahead. -/
theorem ahead_not {zs : List Int} (h : zs.Nodup) {j : Nat} (hj : j < zs.length) : (zs.take j).contains (zs[j]?.getD 0) = false := by
  rw [List.getElem?_eq_getElem hj, Option.getD_some]
  cases hc : (zs.take j).contains zs[j] with
  | false => rfl
  | true =>
    rw [List.contains_iff_mem, List.mem_take_iff_getElem] at hc
    obtain ⟨i, hi, e⟩ := hc
    have := (List.getElem_inj h).1 e
    omega
theorem taken_more {zs : List Int} {j s : Nat} (hj : j < zs.length) (hs : zs[j]?.getD 0 = (s : Int)) : takenB (zs.take (j + 1)) = putB (takenB (zs.take j)) s 1 true := by
  funext i
  unfold takenB
  rw [take_one hj, hs]
  by_cases h : i = s
  · subst h
    rw [putB_at]
    simp
  · rw [putB_off true h]
    have : ¬ ((i : Int) = (s : Int)) := by omega
    simp [this]
theorem OvAt.setT {w : World} {q : Nat} {s : OvB} {O : Ov} {E : Nat} {C : Array Value} {T : TypeId} {g : Nat × Nat} (h : OvAt w q s O) (hz : w.heap[E]? = some (.cells C T g)) (h1 : T ≠ 58) (h2 : T ≠ 71) (h3 : T ≠ 83) (h4 : T ≠ 86) (h5 : T ≠ 3) (i : Nat) (u : Value) : OvAt (w.setCell ⟨E, i, none⟩ u) q s O := by
  obtain ⟨cur, hf, _⟩ := h.board.nums
  refine h.blocks fun k hk => Below.heap_setCell w ⟨E, i, none⟩ u k ?_
  show k ≠ E
  rcases hk with rfl | rfl | rfl | rfl | rfl | rfl | rfl | rfl
  · exact (ne_type hz h.head h1).symm
  · exact (ne_type hz h.board.head h2).symm
  · exact (ne_type hz h.board.row.head h3).symm
  · exact (ne_type hz h.board.row.body h4).symm
  · exact (ne_type hz hf h5).symm
  · exact (ne_map hz h.base).symm
  · exact (ne_map hz h.was).symm
  · exact (ne_map hz h.fresh).symm
theorem cells4' {w : World} {X : Nat} {a b c d : Value} {T : TypeId} (h : w.heap[X]? = some (.cells #[a, b, c, d] T (0, 0))) : w.cell? ⟨X, 0, none⟩ = some a ∧ w.cell? ⟨X, 1, none⟩ = some b ∧ w.cell? ⟨X, 2, none⟩ = some c ∧ w.cell? ⟨X, 3, none⟩ = some d := by
  refine ⟨?_, ?_, ?_, ?_⟩ <;> simp [World.cell?, h]
theorem own_empty (w : World) (e : TypeId) : (w.alloc (.cells #[] e)).ownsRow w.heap.size e 1 (.slice (some ⟨w.heap.size, 0, none⟩) 0 0) 0 (nums []) :=
  ⟨rfl, .inr ⟨w.heap.size, 0, #[], rfl, Nat.le_refl _, heap_alloc_new w _, Nat.le_refl _, by unfold maxLen; omega, rfl, rfl⟩⟩
set_option maxHeartbeats 8000000 in
theorem overlayParts_walk (n : Int) (a1 : Option Addr) (len1 cap1 : Nat) (cs : List Ac12) (w : World) (ht : Steps w) (f0 : (Lit.int .i64 n).wf = true) (f1 : Els encA 4 w (.slice a1 len1 cap1) cs ∧ ∀ y ∈ cs, AcI y) :
    Calls Tryd.prog 3 #[.int .i64 n, .slice a1 len1 cap1] w fun e w' => e = .returned (.bool true) ∧ Below w.heap.size w w' := by
  have hn : I64 n := by simpa [Lit.wf, IntKind.min, IntKind.max, IntKind.signed, IntKind.bits, I64] using f0
  have HT : Hid (Steps w) := ht
  have hlen : len1 ≤ 9223372036854775807 := by
    have h1 := f1.1.lenEq
    have h2 := f1.1.1
    unfold maxLen at h2
    omega
  have HAw : Hid (∀ W, Below w.heap.size w W → Calls Tryd.prog 5 #[] W fun x w' => x = .returned (.bool true) ∧ Below W.heap.size W w') := fun W hb => awake12_any W (HT.out.below hb)
  by_cases hl : 40 < len1
  · clear f1 hn f0
    go_enter Tryd.func3, Tryd.ntmps3
    go_wp2_with fail
    refine (HAw.out w (Below.refl _ _)).mono ?_
    rintro e w1 ⟨rfl, hB⟩
    have HB : Hid (Below w.heap.size w w1) := hB
    clear hB
    go_wp2_with fail
    refine (HAw.out w1 HB.out).mono ?_
    rintro e w2 ⟨rfl, hB2⟩
    have HB2 : Hid (Below w.heap.size w w2) := HB.out.trans (hB2.mono HB.out.size)
    clear hB2
    go_wp2
    go_ret
    exact ⟨rfl, HB2.out⟩
  · obtain ⟨r, hr, hr5⟩ := mod_any n 12 (by decide) (by decide) hn
    obtain ⟨m, hm⟩ : ∃ m, m = 1 + r := ⟨_, rfl⟩
    have HM : Hid (wrap64 (1 + (wrap64 (n.tmod 12 + 12)).tmod 12) = (m : Int)) := by
      unfold Hid
      have e1 : (wrap64 (n.tmod 12 + 12)).tmod 12 = (r : Int) := hr
      rw [e1, show (1 : Int) + (r : Int) = ((m : Nat) : Int) by omega, wrap_nat m (by omega)]
    have hm1 : 1 ≤ m ∧ m ≤ 12 := by omega
    have HR : Hid (Els encA 4 w (.slice a1 len1 cap1) cs) := f1.1
    have HAI : Hid (∀ y ∈ cs, AcI y) := f1.2
    have HLN : Hid (cs.length = len1) := f1.1.lenEq
    have hzS := Tryd.zeroSeen12
    have HSA : Hid (∀ W : World, Seen12 (W.alloc (.cells (boolL noneB 12).toArray 38)) W.heap.size noneB) := fun W => heap_alloc_new W _
    obtain ⟨Z, hZ⟩ : ∃ Z, Z = (boolL noneB 12).toArray := ⟨_, rfl⟩
    rw [← hZ] at hzS HSA
    clear hr hr5 hm f0 f1 ht hn hZ
    go_enter Tryd.func3, Tryd.ntmps3
    go_wp2_with fail
    refine (HAw.out w (Below.refl _ _)).mono ?_
    rintro e w1 ⟨rfl, hB⟩
    have HN := newI w w1 m HT.out hB hm1.1 (by omega)
    clear hB HAw
    go_wp2_with fail
    rw [HM.out]
    refine HN.mono ?_
    rintro e w2 ⟨q, s, rfl, hI⟩
    have HI : Hid (OvI w q s m 0 0 (newO m []) w2) := hI
    clear hI HN HM
    go_wp2
    go_loopw [8] (fun i wr => ∃ (j : Nat) (O : Ov), i = .int .i64 (j : Nat) ∧ j ≤ len1 ∧ Hid (OvI w q s m 0 j O wr)) (fun i _ => len1 - (intOf i).toNat)
    case atStart => exact ⟨0, _, rfl, Nat.zero_le _, HI.out⟩
    case round =>
      obtain ⟨j, O, rfl, hj, hI⟩ := hrel
      by_cases hlt : j < len1
      · obtain ⟨gg, off, rfl, hgl, hcell⟩ := HR.out.ac (by omega)
        obtain ⟨kd, ah, ap, au, hjj⟩ := ac_at (xs := cs) (j := j) (by rw [HLN.out]; exact hlt)
        obtain ⟨x0, x1, x2, x3⟩ := hcell j _ hjj
        have HKI : Hid (KI (ah, ap)) := ⟨(HAI.out _ (List.mem_of_getElem? hjj)).2.1, (HAI.out _ (List.mem_of_getElem? hjj)).2.2.1⟩
        have y0 := (hI.out.bel.cell (p := ⟨gg, off + j * 4, none⟩) hgl).trans x0
        have y1 := (hI.out.bel.cell (p := ⟨gg, off + j * 4 + 1, none⟩) hgl).trans x1
        have y2 := (hI.out.bel.cell (p := ⟨gg, off + j * 4 + 2, none⟩) hgl).trans x2
        have y3 := (hI.out.bel.cell (p := ⟨gg, off + j * 4 + 3, none⟩) hgl).trans x3
        simp only at y0 y1 y2 y3
        clear x0 x1 x2 x3 hcell hjj
        go_upto_block 2 with fail
        obtain ⟨V, hV⟩ : ∃ V, V = wr.alloc (.cells #[.int .i64 kd, .int .i64 ah, .int .i64 ap, .int .u32 (au : Nat)] 32) := ⟨_, rfl⟩
        have HGA : Hid (V.heap[wr.heap.size]? = some (.cells #[.int .i64 kd, .int .i64 ah, .int .i64 ap, .int .u32 (au : Nat)] 32 (0, 0))) := by rw [hV]; exact heap_alloc_new wr _
        have HIV : Hid (OvI w q s m 0 j O V) := by rw [hV]; exact hI.out.below ((Below.refl _ _).alloc (Nat.le_refl _) _)
        rw [← hV]
        obtain ⟨A, hA⟩ : ∃ A, A = wr.heap.size := ⟨_, rfl⟩
        rw [← hA] at HGA
        try rw [← hA]
        clear hV hA y0 y1 y2 y3 hI hgl
        have HJ : Hid (0 + j ≤ 480) := by unfold Hid; omega
        go_cut [] from 36 to 115 (fun wx => ∃ O', Hid (OvI w q s m 0 (j + 1) O' wx))
        case first =>
          obtain ⟨z0, z1, z2, z3⟩ := cells4' HGA.out
          by_cases k0 : kd = 0
          · subst k0
            have HP := HIV.out.put HT.out HJ.out ah ap HKI.out
            go_wp2_with fail
            refine HP.mono ?_
            rintro x w5 ⟨O5, a5, b5, c5, e5, rfl, -, hi5, -⟩
            have HI5 : Hid (OvI w q s m 0 (j + 1) O5 w5) := hi5
            clear hi5 HP z0 z1 z2 z3
            go_wp2
            go_meet
            exact ⟨_, HI5.out⟩
          · have e0 : (kd == 0) = false := by simpa using k0
            by_cases k1 : kd = 1
            · subst k1
              have HP := HIV.out.drop HT.out HJ.out ah ap HKI.out
              go_wp2_with fail
              refine HP.mono ?_
              rintro x w5 ⟨rfl, hi5, -⟩
              have HI5 : Hid (OvI w q s m 0 (j + 1) _ w5) := hi5.more (Nat.le_succ j)
              clear hi5 HP z0 z1 z2 z3
              go_wp2
              go_meet
              exact ⟨_, HI5.out⟩
            · have e1 : (kd == 1) = false := by simpa using k1
              by_cases k3 : kd = 3
              · subst k3
                have HP := HIV.out.commit HT.out HJ.out
                go_wp2_with fail
                refine HP.mono ?_
                rintro x w5 ⟨rfl, hi5, -⟩
                have HI5 : Hid (OvI w q s m 0 (j + 1) _ w5) := hi5.more (Nat.le_succ j)
                clear hi5 HP z0 z1 z2 z3
                go_wp2
                go_meet
                exact ⟨_, HI5.out⟩
              · have e3 : (kd == 3) = false := by simpa using k3
                have HI5 : Hid (OvI w q s m 0 (j + 1) O V) := HIV.out.more (Nat.le_succ j)
                clear z1 z2 z3
                go_wp2
                go_meet
                exact ⟨_, HI5.out⟩
        case rest =>
          obtain ⟨O5, HI5⟩ := hcut
          clear HIV HGA HKI HJ
          obtain ⟨W5, hW5⟩ : ∃ W, W = wc.alloc (.cells Z 38) := ⟨_, rfl⟩
          have HS5 : Hid (Seen12 W5 wc.heap.size noneB) := by rw [hW5]; exact HSA.out wc
          have HI6 : Hid (OvI w q s m 0 (j + 1) O5 W5) := by rw [hW5]; exact HI5.out.below ((Below.refl _ _).alloc (Nat.le_refl _) _)
          have HGW : Hid (w.heap.size ≤ wc.heap.size) := HI5.out.bel.size
          have HJ2 : Hid (0 + (j + 1) ≤ 480) := by unfold Hid; omega
          have HP := HI6.out.parts HJ2.out
          go_wp2_with fail
          rw [← hW5]
          obtain ⟨g, hg⟩ : ∃ g, g = wc.heap.size := ⟨_, rfl⟩
          rw [← hg] at HS5 HGW
          try rw [← hg]
          clear hW5 hg HI5
          refine HP.mono ?_
          rintro x w6 ⟨t1, t2, t3, rfl, hn1, hn2, hn3, hb6⟩
          have HI7 : Hid (OvI w q s m 0 (j + 1) O5 w6) := HI6.out.below hb6
          have HS7 : Hid (Seen12 w6 g noneB) := (hb6.block g (lt_of_heap HS5.out)).trans HS5.out
          have HG7 : Hid (g < w6.heap.size) := lt_of_heap HS7.out
          obtain ⟨p1, q1, rfl⟩ := hn1.shape
          obtain ⟨p2, q2, rfl⟩ := hn2.shape
          obtain ⟨p3, q3, rfl⟩ := hn3.shape
          have HL1 : Hid ((slotsL O5.base).length + (slotsL O5.fresh).length + (slotsL O5.was).length ≤ 41) := by
            have h1 := HI7.out.tot
            have h2 := all_len O5
            unfold allS at h2
            rw [List.length_append, List.length_append] at h2
            unfold Hid
            omega
          have HZS : Hid (slotsL O5.base ++ slotsL O5.fresh ++ slotsL O5.was = allS O5) := rfl
          obtain ⟨i0, hi, hz0, hz1, hz2⟩ := info_parts Tryd.infoI64
          have HN1 : Hid (Nums w6 (.slice p1 (slotsL O5.base).length q1) (slotsL O5.base)) := hn1
          have HN2 : Hid (Nums w6 (.slice p2 (slotsL O5.fresh).length q2) (slotsL O5.fresh)) := hn2
          have HN3 : Hid (Nums w6 (.slice p3 (slotsL O5.was).length q3) (slotsL O5.was)) := hn3
          generalize slotsL O5.base = L1 at *
          generalize slotsL O5.fresh = L2 at *
          generalize slotsL O5.was = L3 at *
          obtain ⟨n1, hn1'⟩ : ∃ n, n = L1.length := ⟨_, rfl⟩
          obtain ⟨n2, hn2'⟩ : ∃ n, n = L2.length := ⟨_, rfl⟩
          obtain ⟨n3, hn3'⟩ : ∃ n, n = L3.length := ⟨_, rfl⟩
          rw [← hn1'] at HN1 HL1
          rw [← hn2'] at HN2 HL1
          rw [← hn3'] at HN3 HL1
          rw [← hn1', ← hn2', ← hn3']
          have HLL : Hid (n1 = L1.length ∧ n2 = L2.length ∧ n3 = L3.length) := ⟨hn1', hn2', hn3'⟩
          have HO0 : Hid ((w6.alloc (.cells #[] 3)).ownsRow w6.heap.size 3 1 (.slice (some ⟨w6.heap.size, 0, none⟩) 0 0) 0 (nums [])) := own_empty w6 _
          have HB0 : Hid (Below w6.heap.size w6 (w6.alloc (.cells #[] 3))) := (Below.refl _ _).alloc (Nat.le_refl _) _
          have hlb := HL1.out
          clear hn1 hn2 hn3 hb6 HP HI6 HS5 hn1' hn2' hn3'
          go_wp2_with (first
            | (at_builtin; refine wpList_append_nums _ rfl _ _ 39 rfl w6.heap.size 3 i0 Tryd.underlying39 hi hz0 hz1 hz2 (.slice (some ⟨w6.heap.size, 0, none⟩) 0 0) 0 [] rfl HO0.out (.slice p1 n1 q1) L1 rfl (HN1.out.kept HB0.out) ?d1 ?d2 ?_; (case d1 => have := HLL.out; omega); (case d2 => simp); intro v7 w7 hown7 hg7 _; have HO7 : Hid (w7.ownsRow w6.heap.size 3 1 v7 n1 (nums L1)) := (by have h9 := hown7; rw [Nat.zero_add, List.nil_append, ← HLL.out.1] at h9; exact h9); have HB7 : Hid (Below w6.heap.size w6 w7) := grewAny HB0.out HO0.out hg7 (by simp); clear hown7 hg7)
            | (at_builtin; refine wpList_append_nums _ rfl _ _ 39 rfl w6.heap.size 3 i0 Tryd.underlying39 hi hz0 hz1 hz2 v7 n1 L1 rfl HO7.out (.slice p2 n2 q2) L2 rfl (HN2.out.kept HB7.out) ?d1 ?d2 ?_; (case d1 => have := HLL.out; omega); (case d2 => exact HB7.out.size); intro v8 w8 hown8 hg8 _; have HO8 : Hid (w8.ownsRow w6.heap.size 3 1 v8 (n1 + n2) (nums (L1 ++ L2))) := (by have h9 := hown8; rw [← HLL.out.2.1] at h9; exact h9); have HB8 : Hid (Below w6.heap.size w6 w8) := grewAny HB7.out HO7.out hg8 HB7.out.size; clear hown8 hg8)
            | (at_builtin; refine wpList_append_nums _ rfl _ _ 39 rfl w6.heap.size 3 i0 Tryd.underlying39 hi hz0 hz1 hz2 v8 (n1 + n2) (L1 ++ L2) rfl HO8.out (.slice p3 n3 q3) L3 rfl (HN3.out.kept HB8.out) ?d1 ?d2 ?_; (case d1 => have := HLL.out; omega); (case d2 => exact HB8.out.size); intro v9 w9 hown9 hg9 _; have HO9 : Hid (w9.ownsRow w6.heap.size 3 1 v9 (n1 + n2 + n3) (nums (L1 ++ L2 ++ L3))) := (by have h9 := hown9; rw [← HLL.out.2.2] at h9; exact h9); have HB9 : Hid (Below w6.heap.size w6 w9) := grewAny HB8.out HO8.out hg9 HB8.out.size; clear hown9 hg9))
          obtain ⟨p9, q9, rfl⟩ := own_sh HO9.out
          obtain ⟨T, hT⟩ : ∃ T, T = n1 + n2 + n3 := ⟨_, rfl⟩
          rw [← hT] at HO9 ⊢
          have HTT : Hid (T = totalO O5) := by
            have h2 := all_len O5
            rw [← HZS.out, List.length_append, List.length_append, ← HLL.out.1, ← HLL.out.2.1, ← HLL.out.2.2, ← hT] at h2
            exact h2
          rw [HZS.out] at HO9
          have HZL : Hid ((allS O5).length = T) := by unfold Hid; rw [HTT.out]; exact all_len O5
          have HI9 : Hid (OvI w q s m 0 (j + 1) O5 w9) := HI7.out.below HB9.out
          have HGD : Hid (GoodG m O5.B (allS O5)) := by have h9 := all_good HI9.out.ok; rw [HI9.out.n] at h9; exact h9
          have HN9 : Hid (Nums w9 (.slice p9 T q9) (allS O5)) := by
            refine Nums.ofOwn HO9.out fun z hz => ?_
            obtain ⟨sl, e1, e2, -⟩ := HGD.out.2 z hz
            unfold I64
            omega
          have HS9 : Hid (Seen12 w9 g noneB) := (HB9.out.block g HG7.out).trans HS7.out
          have HOB : Hid (∀ b, (Value.slice p9 T q9).ownBlock = some b → b ≠ g) := fun b hb => by have := (HO9.out.lt b hb).1; have := HG7.out; omega
          have HFR : Hid (T ≤ m) := by have := total_le HI9.out.ok; rw [HI9.out.n] at this; rw [HTT.out]; exact this
          have hTb : T ≤ 12 := by have := HFR.out; omega
          generalize allS O5 = zs at *
          clear hT HO7 HO8 HO9 HB7 HB8 HB9 HO0 HB0 HN1 HN2 HN3 HLL hlb HL1 HZS HI7 HS7 HG7 hi hz0 hz1 hz2
          go_wp2_with fail
          go_loopw [15] (fun i wx => ∃ y : Nat, i = .int .i64 (y : Nat) ∧ y ≤ T ∧ Hid (Seen12 wx g (takenB (zs.take y))) ∧ Hid (Nums wx (.slice p9 T q9) zs) ∧ Hid (OvI w q s m 0 (j + 1) O5 wx)) (fun i _ => T - (intOf i).toNat)
          case atStart => exact ⟨0, rfl, Nat.zero_le _, HS9.out, HN9.out, HI9.out⟩
          case round =>
            obtain ⟨y, rfl, hy, HSy, HNy, HIy⟩ := hrel
            by_cases hyl : y < T
            · obtain ⟨b, off2, rfl, hbl, hcell2⟩ := HNy.out.addr (by omega)
              have c0 := hcell2 y hyl
              have hyz : y < zs.length := by rw [HZL.out]; exact hyl
              obtain ⟨sl, hsl, hsm, -⟩ := HGD.out.2 _ (List.getElem_mem hyz)
              have hsd : zs[y]?.getD 0 = (sl : Int) := by rw [List.getElem?_eq_getElem hyz, Option.getD_some]; exact hsl
              have hah := ahead_not HGD.out.1 hyz
              rw [hsd] at c0 hah
              have h12 : sl < 12 := by omega
              have hcs := HSy.out.cell sl h12
              rw [show takenB (zs.take y) sl = false from hah] at hcs
              have hcf := HSy.out.cold sl
              have HS2 : Hid (Seen12 (wr.setCell ⟨g, sl, none⟩ (.bool true)) g (takenB (zs.take (y + 1)))) := by rw [taken_more hyz hsd]; exact HSy.out.put sl h12
              have HN2 : Hid (Nums (wr.setCell ⟨g, sl, none⟩ (.bool true)) (.slice (some ⟨b, off2, none⟩) T q9) zs) := HNy.out.spared (by simp) fun g' hg' _ => Below.heap_setCell wr ⟨g, sl, none⟩ _ g' (HOB.out g' hg')
              have HI2 : Hid (OvI w q s m 0 (j + 1) O5 (wr.setCell ⟨g, sl, none⟩ (.bool true))) := ⟨HIy.out.at_.setT HSy.out (by decide) (by decide) (by decide) (by decide) (by decide) sl _, HIy.out.ok, HIy.out.tot, HIy.out.n, belowOut HIy.out.bel HGW.out _ _, HIy.out.new⟩
              have hx1 : (sl : Int) < (m : Int) := by omega
              clear hcell2 hsl hsd hah hbl HSy HNy HIy hyz
              go_wp2
              go_roundw
              case rel => exact ⟨y + 1, by go_num, by omega, HS2.out, HN2.out, HI2.out⟩
              case measure => simp [intOf]; omega
            · obtain rfl : y = T := by omega
              have HFE := HIy.out.free
              obtain ⟨F, hF⟩ : ∃ F, F = m - totalO O5 := ⟨_, rfl⟩
              rw [← hF] at HFE
              have hTF : y + F = m := by have := HTT.out; have := HFR.out; omega
              have hTF2 : ((y : Nat) : Int) + ((F : Nat) : Int) = ((m : Nat) : Int) := by omega
              clear hF HSy HNy HTT
              go_wp2_with fail
              refine HFE.mono ?_
              rintro x w10 ⟨rfl, hb10⟩
              have HI10 : Hid (OvI w q s m 0 (j + 1) O5 w10) := HIy.out.below hb10
              clear hb10 HFE HIy
              go_wp2
              go_roundw
              case rel => exact ⟨j + 1, O5, by go_num, by omega, HI10.out⟩
              case measure => simp [intOf]; omega
      · have HBE : Hid (Below w.heap.size w wr) := hI.out.bel
        clear hI
        go_wp2
        go_ret
        exact ⟨rfl, HBE.out⟩
end Go.Proofs.YtjhkcdnfnmglhaaDoor
