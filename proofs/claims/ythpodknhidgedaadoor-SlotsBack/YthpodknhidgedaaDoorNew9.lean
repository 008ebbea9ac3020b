/- How a board comes about: 'New'. -/
import Derived.Test.YthpodknhidgedaaDoorGive9
import Derived.Test.YthpodknhidgedaaDoorNew8
namespace Go.Proofs.YthpodknhidgedaaDoor
open Go.RowKit
set_option linter.unusedVariables false

theorem own_other {w : World} {base n b : Nat} {e t : TypeId} {v : Value} {xs : List Value} {C : Array Value} {fr : Nat × Nat} (h : w.ownsRow base e 1 v n xs) (hb : w.heap[b]? = some (.cells C t fr)) (ht : t ≠ e) : some b ≠ v.ownBlock := by
  rcases h.2 with ⟨rfl, _⟩ | ⟨g, cap, cur, rfl, _, hg, _⟩
  · simp [Value.ownBlock]
  · intro e2
    simp [Value.ownBlock] at e2
    subst e2
    rw [hg] at hb
    simp at hb
    exact ht hb.2.1.symm
theorem heap_in {w : World} {b : Nat} {o : Obj} (x : Obj) (h : w.heap[b]? = some o) : (w.alloc x).heap[b]? = some o := (heap_alloc_old w x (lt_of_heap h)).trans h
theorem ownSet {w : World} {base n q : Nat} {e t : TypeId} {v : Value} {xs : List Value} {C : Array Value} {fr : Nat × Nat} (h : w.ownsRow base e 1 v n xs) (hq : w.heap[q]? = some (.cells C t fr)) (ht : t ≠ e) (i : Nat) (u : Value) : (w.setCell ⟨q, i, none⟩ u).ownsRow base e 1 v n xs :=
  ownsRow_same h fun g hg => Below.heap_setCell w ⟨q, i, none⟩ u g (fun e2 => own_other h hq ht (by rw [hg]; exact congrArg some e2.symm))
theorem belowOut {B q : Nat} {a w : World} (h : Below B a w) (hq : B ≤ q) (i : Nat) (u : Value) : Below B a (w.setCell ⟨q, i, none⟩ u) :=
  ⟨h.os, h.tape, h.output, by simpa using h.size, fun k hk => (Below.heap_setCell w _ u k (by show k ≠ q; omega)).trans (h.block k hk)⟩
/-- What stands between two rounds of New's first loop. -/
structure NewI (w : World) (p b q n c : Nat) (v : Value) (wr : World) : Prop where
  own : wr.ownsRow w.heap.size 3 1 v c (nums (frL noneB n c))
  head : wr.heap[q]? = some (.cells #[.pointer (some ⟨p, 0, none⟩), v] 58 (0, 0))
  row : RowAt wr p b n noneB
  bel : Below w.heap.size w wr
theorem NewI.old {w wr w7 : World} {p b q n c k : Nat} {v : Value} {o : Obj} {C : Array Value} {t : TypeId} {fr : Nat × Nat} (h : NewI w p b q n c v wr) (hg : (wr.alloc o).grownBy w7 v.ownBlock) (hk : wr.heap[k]? = some (.cells C t fr)) (ht : t ≠ 3) : w7.heap[k]? = some (.cells C t fr) :=
  (hg.block k (by simp; exact Nat.lt_succ_of_lt (lt_of_heap hk)) (own_other (h.own.alloc o) (heap_in o hk) ht)).trans (heap_in o hk)
theorem NewI.cold {w wr w7 : World} {p b q n c : Nat} {v : Value} {o : Obj} (h : NewI w p b q n c v wr) (hg : (wr.alloc o).grownBy w7 v.ownBlock) : World.frozen? w7 ⟨q, 1, none⟩ = false ∧ World.cell? w7 ⟨q, 1, none⟩ = some v := by
  have := h.old hg h.head (by decide)
  exact ⟨by simp [World.frozen?, this], by rw [cell_of_row w7 q _ _ _ _ this]; rfl⟩
theorem NewI.grow {w wr w7 : World} {p b q n c : Nat} {v v7 : Value} {o : Obj} (h : NewI w p b q n c v wr) (hq : w.heap.size ≤ q) (hown : w7.ownsRow w.heap.size 3 1 v7 (c + 1) (nums (frL noneB n (c + 1)))) (hg : (wr.alloc o).grownBy w7 v.ownBlock) : NewI w p b q n (c + 1) v7 (w7.setCell ⟨q, 1, none⟩ v7) := by
  have h1 := h.old hg h.head (by decide)
  have h2 := h.old hg h.row.head (by decide)
  have h3 := h.old hg h.row.body (by decide)
  have hs := h.bel.size
  have hb : Below w.heap.size w w7 := grewAny (h.bel.alloc hs o) (h.own.alloc o) hg (by simp; exact Nat.le_succ_of_le hs)
  exact ⟨ownSet hown h1 (by decide) 1 v7, heap_set_row h1 1 v7, ⟨(Below.heap_setCell w7 _ _ p (ne_type h2 h1 (by decide))).trans h2, (Below.heap_setCell w7 _ _ b (ne_type h3 h1 (by decide))).trans h3, h.row.small, h.row.tail⟩, belowOut hb hq 1 v7⟩
def NewOk (n : Int) (zs : List Int) : Prop := ∃ m : Nat, n = (m : Int) ∧ 1 ≤ m ∧ m ≤ 65536 ∧ Good m zs
theorem newB_off (w : World) (n : Int) (v : Value) (hm : -9223372036854775808 ≤ n) (hx : n ≤ 9223372036854775807) (h0 : 0 < w.heap.size) (hn : n < 1 ∨ 65536 < n) :
    Calls Tryd.prog 8 #[.int .i64 n, v] w fun x w' => x = .returned (.tuple #[.pointer none, .int .i64 2]) ∧ Below w.heap.size w w' := by
  by_cases h : n = 0
  · subst h
    have HN : Hid (Calls Tryd.prog 23 #[.int .i64 0] w fun x w' => ∃ p b, x = .returned (.tuple #[.pointer (some ⟨p, 0, none⟩), .int .i64 0]) ∧ w.heap.size ≤ p ∧ w.heap.size ≤ b ∧ RowAt w' p b 0 noneB ∧ Below w.heap.size w w') := new_ok w 0 (by omega) h0
    go_enter Tryd.func8, Tryd.ntmps8
    go_wp2_with fail
    refine HN.out.mono ?_
    rintro e w' ⟨p, b, rfl, -, -, -, hB⟩
    have HB : Hid (Below w.heap.size w w') := hB
    clear hB
    go_wp2
    go_ret2
    exact ⟨rfl, HB.out⟩
  · have HN : Hid (Calls Tryd.prog 23 #[.int .i64 n] w fun x w' => x = .returned (.tuple #[.pointer none, .int .i64 2]) ∧ w' = w) := new_no w n hm hx (by omega)
    go_enter Tryd.func8, Tryd.ntmps8
    go_wp2_with fail
    refine HN.out.mono ?_
    rintro e w' ⟨rfl, rfl⟩
    go_wp2
    go_ret2
    exact ⟨rfl, Below.refl _ _⟩
/-- What New answers, and leaves. -/
def NewIs (w : World) (n : Nat) (zs : List Int) (x : Ending) (w' : World) : Prop :=
  Below w.heap.size w w' ∧ ((Good n zs ∧ ∃ q p b f cap, x = .returned (.tuple #[.pointer (some ⟨q, 0, none⟩), .int .i64 0]) ∧ w.heap.size ≤ b ∧ w.heap.size ≤ f ∧ BoardAt w' q p b f cap n (takenB zs)) ∨ (¬ Good n zs ∧ x = .returned (.tuple #[.pointer none, .int .i64 2])))
set_option maxRecDepth 20000 in
set_option maxHeartbeats 2000000 in
theorem newB_any (w : World) (n : Nat) (v0 : Value) (zs : List Int) (hn1 : 1 ≤ n) (hn : n ≤ 65536) (ht : Steps w) (hv : Nums w v0 zs) :
    Calls Tryd.prog 8 #[.int .i64 (n : Nat), v0] w fun x w' => NewIs w n zs x w' := by
  obtain ⟨i0, hi, hz0, hz1, hz2⟩ := info_parts Tryd.infoI64
  have HT : Hid (Steps w) := ht
  have HV : Hid (Nums w v0 zs) := hv
  have HN : Hid (Calls Tryd.prog 23 #[.int .i64 (n : Nat)] w fun x w' => ∃ p b, x = .returned (.tuple #[.pointer (some ⟨p, 0, none⟩), .int .i64 0]) ∧ w.heap.size ≤ p ∧ w.heap.size ≤ b ∧ RowAt w' p b n noneB ∧ Below w.heap.size w w') := new_ok w n hn ht.pos
  have hwn := wn_le n hn
  obtain ⟨a, cp, rfl⟩ := hv.shape
  obtain ⟨L, hL⟩ : ∃ L, L = zs.length := ⟨_, rfl⟩
  rw [← hL] at HV ⊢
  have HL : Hid (L = zs.length) := hL
  have hLm : L ≤ 9223372036854775807 := by have := HV.out.capLe; unfold maxLen at this; omega
  clear ht hv hL
  go_enter Tryd.func8, Tryd.ntmps8
  go_wp2_with fail
  refine HN.out.mono ?_
  rintro e w1 ⟨p, b, rfl, hp, hb, hR, hB⟩
  have HR1 : Hid (RowAt w1 p b n noneB) := hR
  have HB1 : Hid (Below w.heap.size w w1) := hB
  have HP1 : Hid (w.heap.size ≤ p ∧ w.heap.size ≤ b) := ⟨hp, hb⟩
  clear hp hb hR hB
  obtain ⟨q, hq⟩ : ∃ q, q = w1.heap.size := ⟨_, rfl⟩
  have HQS : Hid (w.heap.size ≤ q) := by have := HB1.out.size; unfold Hid; omega
  have HST : Hid (∃ v, (w1.alloc (.cells #[.pointer (some ⟨p, 0, none⟩), .slice none 0 0] 58 (0, 0))).ownsRow w.heap.size 3 1 v 0 (nums (frL noneB n 0)) ∧ (w1.alloc (.cells #[.pointer (some ⟨p, 0, none⟩), .slice none 0 0] 58 (0, 0))).heap[q]? = some (.cells #[.pointer (some ⟨p, 0, none⟩), v] 58 (0, 0))) := by
    refine ⟨.slice none 0 0, World.ownsRow_nil _ _ _ _, ?_⟩
    rw [hq]; exact heap_alloc_new _ _
  have HR2 : Hid (RowAt (w1.alloc (.cells #[.pointer (some ⟨p, 0, none⟩), .slice none 0 0] 58 (0, 0))) p b n noneB) := HR1.out.below ((Below.refl _ _).alloc (Nat.le_refl _) _)
  have HB2 : Hid (Below w.heap.size w (w1.alloc (.cells #[.pointer (some ⟨p, 0, none⟩), .slice none 0 0] 58 (0, 0)))) := HB1.out.alloc HB1.out.size _
  go_wp2
  rw [← hq]
  clear hq
  go_loopw [9] (fun at' wr => ∃ (c : Nat) (v : Value), at' = .int .i64 ((64 * c : Nat) : Int) ∧ c ≤ wn n ∧ Hid (NewI w p b q n c v wr)) (fun at' _ => 65600 - (intOf at').toNat)
  case atStart =>
    obtain ⟨v, h1, h2⟩ := HST.out
    exact ⟨0, v, rfl, Nat.zero_le _, h1, h2, HR2.out, HB2.out⟩
  case round =>
    obtain ⟨c, v, rfl, hc, hI⟩ := hrel
    have HSZ : Hid (w.heap.size ≤ wr.heap.size) := hI.out.bel.size
    by_cases hlt : 64 * c < n
    · have hcl : c < wn n := by unfold wn; omega
      have hcell : World.cell? wr ⟨q, 1, none⟩ = some v := by rw [cell_of_row wr q _ _ _ _ hI.out.head]; rfl
      obtain ⟨r, hr⟩ : ∃ r : Nat, r = n - 64 * c := ⟨_, rfl⟩
      have hr2 : (n : Int) - ((64 * c : Nat) : Int) = (r : Nat) := by omega
      have hr3 : (n : Int) - 64 * (c : Nat) = (r : Nat) := by omega
      have HRR : Hid (r = n - 64 * c) := hr
      clear hr
      by_cases hmin : r < 64
      · have hc2 : ((r : Nat) : Int) < 64 := by omega
        have HX : Hid (frL noneB n c ++ [((r : Nat) : Int)] = frL noneB n (c + 1)) := by
          unfold Hid frL
          rw [List.range_succ, List.map_append, List.map_singleton, fr_none n c noneB (fun _ => rfl), show min 64 (n - 64 * c) = r by have := HRR.out; omega]
          try rfl
        go_wp2_with (at_builtin; (refine wpList_append_nums _ rfl _ _ 22 rfl w.heap.size 3 i0 Tryd.underlying22 hi hz0 hz1 hz2 v c (frL noneB n c) rfl (hI.out.own.alloc _) _ [((r : Nat) : Int)] rfl (Nums.one ⟨by omega, by omega⟩) ?d1 ?d2 ?_; (case d1 => simp; omega); (case d2 => simp; exact Nat.le_succ_of_le HSZ.out); intro v7 w7 hown7 hg7 _; obtain ⟨a7, c7, rfl⟩ := own_sh hown7; rw [HX.out] at hown7; have hfz : World.frozen? w7 ⟨q, 1, none⟩ = false := (hI.out.cold hg7).1; have hcc : World.cell? w7 ⟨q, 1, none⟩ = some v := (hI.out.cold hg7).2; have HI7 : Hid (NewI w p b q n (c + 1) (.slice a7 (c + 1) c7) (w7.setCell ⟨q, 1, none⟩ (.slice a7 (c + 1) c7))) := hI.out.grow HQS.out hown7 hg7; clear hown7 hg7))
        go_roundw
        case rel => exact ⟨c + 1, .slice a7 (c + 1) c7, by go_num, by omega, HI7⟩
        case measure => simp [intOf]; omega
      · have hc2 : (64 < r) ∨ r = 64 := by omega
        have HX : Hid (frL noneB n c ++ [(64 : Int)] = frL noneB n (c + 1)) := by
          unfold Hid frL
          rw [List.range_succ, List.map_append, List.map_singleton, fr_none n c noneB (fun _ => rfl), show min 64 (n - 64 * c) = 64 by have := HRR.out; omega]
          try rfl
        go_wp2_with (at_builtin; (refine wpList_append_nums _ rfl _ _ 22 rfl w.heap.size 3 i0 Tryd.underlying22 hi hz0 hz1 hz2 v c (frL noneB n c) rfl (hI.out.own.alloc _) _ [(64 : Int)] rfl (Nums.one ⟨by omega, by omega⟩) ?d1 ?d2 ?_; (case d1 => simp; omega); (case d2 => simp; exact Nat.le_succ_of_le HSZ.out); intro v7 w7 hown7 hg7 _; obtain ⟨a7, c7, rfl⟩ := own_sh hown7; rw [HX.out] at hown7; have hfz : World.frozen? w7 ⟨q, 1, none⟩ = false := (hI.out.cold hg7).1; have hcc : World.cell? w7 ⟨q, 1, none⟩ = some v := (hI.out.cold hg7).2; have HI7 : Hid (NewI w p b q n (c + 1) (.slice a7 (c + 1) c7) (w7.setCell ⟨q, 1, none⟩ (.slice a7 (c + 1) c7))) := hI.out.grow HQS.out hown7 hg7; clear hown7 hg7))
        go_roundw
        case rel => exact ⟨c + 1, .slice a7 (c + 1) c7, by go_num, by omega, HI7⟩
        case measure => simp [intOf]; omega
    · have hce : c = wn n := by unfold wn at hc ⊢; omega
      have HTK : Hid (Steps wr) := HT.out.kept hI.out.bel (HT.out.pos)
      have HVr : Hid (Nums wr (.slice a L cp) zs) := HV.out.kept hI.out.bel
      obtain ⟨f, hfb, cap, HBD⟩ : ∃ f, w.heap.size ≤ f ∧ ∃ cap, Hid (BoardAt wr q p b f cap n (takenB [])) := by
        subst hce
        obtain ⟨h1, ⟨rfl, h2⟩ | ⟨f, cap, cur, rfl, h2, h3, h4, h5, h6, h7⟩⟩ := hI.out.own
        · unfold wn at h2; omega
        · refine ⟨f, h2, cap, hI.out.head, hI.out.row, ⟨cur, h3, fun c hc => ?_⟩, hn1, h4, h5⟩
          have e := nums_get (frL noneB n (wn n)) c (by rw [frL_length]; exact hc)
          rw [← h7, frL_at hc, List.getElem?_take_of_lt (by omega)] at e
          rw [← Array.getElem?_toList]; exact e
      have HBe : Hid (Below w.heap.size w wr) := hI.out.bel
      have H0 : Hid (0 < b ∧ 0 < f) := by have h1 := HT.out.pos; have h2 := HP1.out.2; exact ⟨by omega, by omega⟩
      have HF : Hid (w.heap.size ≤ f) := hfb
      clear hI hce hfb HSZ HST HR2 HB2 HR1 HB1 HTK
      generalize hT : 64 * c = t at *
      have hdec : ((t : Int) < (n : Nat)) = False := eq_false (by omega)
      clear hT hc
      go_wp2
      go_loopw [47] (fun i wx => ∃ k : Nat, i = .int .i64 (k : Nat) ∧ k ≤ L ∧ Hid (Good n (zs.take k)) ∧ Hid (BoardAt wx q p b f cap n (takenB (zs.take k))) ∧ Hid (Below w.heap.size w wx)) (fun i _ => L - (intOf i).toNat)
      case atStart => exact ⟨0, rfl, Nat.zero_le _, good_nil _, by rw [List.take_zero]; exact HBD, HBe⟩
      case round =>
        obtain ⟨k, rfl, hk, hG, hR, hBe⟩ := hrel
        by_cases hlt : k < L
        · obtain ⟨g, off, rfl, hgl, hcell⟩ := HV.out.addr (by omega)
          have hc := (hBe.out.cell (p := ⟨g, off + k, none⟩) hgl).trans (hcell k hlt)
          have HTr : Hid (Steps _) := HT.out.kept hBe.out HT.out.pos
          have hsm := HV.out.small k
          have hkl : k < zs.length := by have := HL.out; omega
          have HSTOP : Hid (zs[k]?.getD 0 < 0 ∨ (n : Int) ≤ zs[k]?.getD 0 ∨ (∃ s : Nat, zs[k]?.getD 0 = (s : Int) ∧ takenB (zs.take k) s = true) → ¬ Good n zs) := good_stop hkl
          have HSTEP : Hid (∀ s : Nat, zs[k]?.getD 0 = (s : Int) → s < n → takenB (zs.take k) s = false → Good n (zs.take (k + 1)) ∧ takenB (zs.take (k + 1)) = putB (takenB (zs.take k)) s 1 true) := fun s h1 h2 h3 => good_step hG.out hkl h1 h2 h3
          clear hcell hgl
          generalize zs[k]?.getD 0 = z at *
          have hz1 := hsm.1
          have hz2 := hsm.2
          by_cases hbad : z < 0 ∨ (n : Int) ≤ z ∨ (∃ s : Nat, z = (s : Int) ∧ takenB (zs.take k) s = true)
          · have HN : Hid (¬ Good n zs) := HSTOP.out hbad
            have HGV : Hid (Calls Tryd.prog 24 #[.pointer (some ⟨q, 0, none⟩), .int .i64 z, .int .i64 1] wr fun x w' => x = .returned (.int .i64 2) ∧ w' = wr) := by
              by_cases hoff : z < 0 ∨ (n : Int) ≤ z
              · exact take_off wr q p b f cap n _ z hR.out hz1 hz2 hoff
              · rcases hbad with h1 | h1 | ⟨s, rfl, h2⟩
                · exact absurd (.inl h1) hoff
                · exact absurd (.inr h1) hoff
                · exact take_taken wr q p b f cap n _ s hR.out HTr.out (by omega) h2
            clear hbad HSTOP HSTEP hkl hsm
            go_wp2_with fail
            refine HGV.out.mono ?_
            rintro e w2 ⟨rfl, rfl⟩
            go_wp2
            go_ret2
            exact ⟨hBe.out, .inr ⟨HN.out, rfl⟩⟩
          · obtain ⟨s, hs⟩ : ∃ s : Nat, z = (s : Int) := ⟨z.toNat, by rw [Int.toNat_of_nonneg]; omega⟩
            subst hs
            have hsn : s < n := by omega
            have hB : takenB (zs.take k) s = false := by
              cases hb : takenB (zs.take k) s
              · rfl
              · exact absurd (.inr (.inr ⟨s, rfl, hb⟩)) hbad
            obtain ⟨h1, h2⟩ := HSTEP.out s rfl hsn hB
            have H1 : Hid (Good n (zs.take (k + 1))) := h1
            have HGV : Hid (Calls Tryd.prog 24 #[.pointer (some ⟨q, 0, none⟩), .int .i64 (s : Nat), .int .i64 1] wr fun x w' => x = .returned (.int .i64 0) ∧ BoardAt w' q p b f cap n (takenB (zs.take (k + 1))) ∧ Only2 b f wr w') := by
              have := take_ok wr q p b f cap n _ s 1 hR.out HTr.out (by omega) (fun i a1 a2 => by rw [show i = s by omega]; exact hB)
              rwa [← h2] at this
            clear hbad HSTOP HSTEP hkl hsm hB h1 h2
            go_wp2_with fail
            refine HGV.out.mono ?_
            rintro e w2 ⟨rfl, a1, a2⟩
            have A1 : Hid (BoardAt w2 q p b f cap n (takenB (zs.take (k + 1)))) := a1
            have A2 : Hid (Below w.heap.size w w2) := hBe.out.trans (a2.below HP1.out.2 HF.out hBe.out.size)
            clear a1 a2
            go_wp2
            go_roundw
            case rel => exact ⟨k + 1, by go_num, by omega, H1, A1, A2⟩
            case measure => simp [intOf]; omega
        · obtain rfl : k = L := by omega
          have HZ : Hid (zs.take k = zs) := List.take_of_length_le (by have := HL.out; omega)
          have HE : Hid (Good n zs) := by
            have := hG.out
            rwa [HZ.out] at this
          have HE2 : Hid (BoardAt wr q p b f cap n (takenB zs)) := by
            have := hR.out
            rwa [HZ.out] at this
          go_wp2
          go_ret2
          exact ⟨hBe.out, .inl ⟨HE.out, q, p, b, f, cap, rfl, HP1.out.2, HF.out, HE2.out⟩⟩
end Go.Proofs.YthpodknhidgedaaDoor
