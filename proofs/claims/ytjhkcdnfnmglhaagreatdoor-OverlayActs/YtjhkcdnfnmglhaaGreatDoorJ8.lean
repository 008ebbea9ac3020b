/- Some texts of mine, one behind the other (joined by program). -/
import Derived.Test.YtjhkcdnfnmglhaaGreatDoorJ7
import Derived.Test.YtjhkcdnfnmglhaaGreatDoorJ2
import Derived.Test.YtjhkcdnfnmglhaaGreatDoorJ6
import Derived.Test.YtjhkcdnfnmglhaaGreatDoorJ4
import Derived.Deep.RegionLaw
import Derived.Deep.CutBlock

/- Contract of an overlay's Commit. -/
namespace Go.Proofs.YtjhkcdnfnmglhaaGreatDoor
open Go.RowKit Go.Maps
set_option linter.unusedVariables false
set_option maxRecDepth 20000

/-- The pages of ss laid into a list. -/
def layL (l ss : List Md) : List Md := ss.foldl (fun l m => putL l m.k (m.s, m.g, m.u)) l
theorem layL_snoc (l ss : List Md) (x : Ky) (e : Ent) : layL l (ss ++ [md x e]) = putL (layL l ss) x e := by
  unfold layL
  rw [List.foldl_append]
  rfl
theorem layL_rise {l : List Md} (h : Rise l) : ∀ ss, Rise (layL l ss) := fun ss => by
  rcases List.eq_nil_or_concat ss with rfl | ⟨r, m, rfl⟩
  · exact h
  · rw [List.concat_eq_append, ← md_self m, layL_snoc]
    exact rise_put _ _ _
theorem layL_find {l : List Md} : ∀ {ss : List Md} (_ : (ss.map Md.k).Nodup) (x : Ky), findM (layL l ss) x = (findM ss x).or (findM l x)
  | [], _, x => rfl
  | m :: r, h, x => by
    rw [List.map_cons, List.nodup_cons] at h
    show findM (layL (putL l m.k (m.s, m.g, m.u)) r) x = _
    rw [layL_find h.2, find_put, findM]
    by_cases q : x = m.k
    · subst q
      rw [if_pos rfl, if_pos rfl, find_out.2 h.1]
      rfl
    · rw [if_neg q, if_neg (fun e => q e.symm)]
theorem find_perm {a b : List Md} (h : a.Perm b) (hb : (b.map Md.k).Nodup) (x : Ky) : findM a x = findM b x := by
  have ha : (a.map Md.k).Nodup := (h.map Md.k).nodup_iff.2 hb
  cases hx : findM b x with
  | none =>
    rw [find_out] at hx ⊢
    exact fun h' => hx ((h.map Md.k).mem_iff.1 h')
  | some e =>
    have h1 := h.mem_iff.2 (find_mem hx)
    exact mem_find ha h1
theorem layL_is {l a ss : List Md} (hl : Rise l) (ha : Rise a) (h : ss.Perm a) : layL l ss = applyM l a [] :=
  rise_ext (layL_rise hl ss) (rise_apply _ _ _) fun k => by
    rw [layL_find ((h.map Md.k).nodup_iff.2 ha.nodup), find_or ha, find_perm h ha.nodup]
theorem layL_len {l : List Md} (hl : Rise l) : ∀ ss, (layL l ss).length ≤ l.length + ss.length := fun ss => by
  induction ss generalizing l with
  | nil => exact Nat.le_refl _
  | cons m r ih =>
    have h1 := ih (rise_put l m.k (m.s, m.g, m.u))
    have h2 := len_put hl m.k (m.s, m.g, m.u)
    show (layL (putL l m.k (m.s, m.g, m.u)) r).length ≤ _
    rw [List.length_cons]
    split at h2 <;> omega
theorem OvAt.blocks {w w' : World} {q : Nat} {s : OvB} {O : Ov} (h : OvAt w q s O) (hk : ∀ i, i = q ∨ i = s.h ∨ i = s.p ∨ i = s.b ∨ i = s.f ∨ i = s.X ∨ i = s.Y ∨ i = s.Z → w'.heap[i]? = w.heap[i]?) : OvAt w' q s O where
  head := (hk q (by simp)).trans h.head
  board := h.board.same (hk _ (by simp)) (hk _ (by simp)) (hk _ (by simp)) (hk _ (by simp))
  base := h.base.same (hk _ (by simp))
  was := h.was.same (hk _ (by simp))
  fresh := h.fresh.same (hk _ (by simp))
  ne := h.ne
  pos := h.pos
theorem OvAt.lts {w : World} {q : Nat} {s : OvB} {O : Ov} (h : OvAt w q s O) {i : Nat} (hi : i = q ∨ i = s.h ∨ i = s.p ∨ i = s.b ∨ i = s.f ∨ i = s.X ∨ i = s.Y ∨ i = s.Z) : i < w.heap.size := by
  obtain ⟨cur, h2, _⟩ := h.board.nums
  rcases hi with rfl | rfl | rfl | rfl | rfl | rfl | rfl | rfl
  · exact h.lt
  · exact lt_of_heap h.board.head
  · exact lt_of_heap h.board.row.head
  · exact lt_of_heap h.board.row.body
  · exact lt_of_heap h2
  · exact h.base.lt
  · exact h.was.lt
  · exact h.fresh.lt

theorem OvStep.grownNew {s : OvB} {a w w' : World} {R : Nat} (h : OvStep s a w) (hg : w.grownBy w' (some R)) (hR : a.heap.size ≤ R) : OvStep s a w' :=
  Kept.grown (K := fun k => k < a.heap.size ∧ k ≠ s.b ∧ k ≠ s.f ∧ k ≠ s.X ∧ k ≠ s.Y ∧ k ≠ s.Z) h hg fun k hk => ⟨Nat.lt_of_lt_of_le hk.1 h.size, fun e => by
    simp only [Option.some.injEq] at e
    have := hk.1
    omega⟩
set_option maxHeartbeats 4000000 in
theorem com12_any (w : World) (q : Nat) (s : OvB) (O : Ov) (t : Int) (hO : OvAt w q s O) (hl : OvSmall O) (hok : OvOk O t) (ht : Steps w) (hsl : ∀ m ∈ O.was, I64 m.s) :
    Calls Tryz.prog 14 #[.pointer (some ⟨q, 0, none⟩)] w fun x w' => x = .returned (.tuple #[]) ∧ OvAt w' q s (commitO O) ∧ OvStep s w w' := by
  have HO : Hid (OvAt w q s O) := hO
  have HL : Hid (O.base.length ≤ 490 ∧ O.was.length ≤ 490 ∧ O.fresh.length ≤ 490) := hl
  have HOK : Hid (OvOk O t) := hok
  have HT : Hid (Steps w) := ht
  have HP3 : Hid (Calls Tryz.prog 29 #[.map (some s.Y)] w.drew fun e w' => ∃ u, e = .returned u ∧ Nums w' u (slotsL O.was) ∧ Below w.heap.size w w' ∧ ∀ g, u.ownBlock = some g → w.heap.size ≤ g) := (places12_any w.drew s.Y O.was hO.was.drew (by have := hl.2.1; omega) hsl).mono fun e w' ⟨u, h1, h2, h3, h4⟩ => ⟨u, h1, h2, below_undrew h3, h4⟩
  have HGI : Hid (∀ W u, Below w.heap.size w W → Nums W u (slotsL O.was) → (∀ g, u.ownBlock = some g → w.heap.size ≤ g) → Calls Tryz.prog 40 #[.pointer (some ⟨s.h, 0, none⟩), u] W fun x w' => x = .returned (.int .i64 0) ∧ OvAt w' q s { O with B := giveB O.B (slotsL O.was) } ∧ OvStep s w w') := fun W u hb hn hg => by
    have ho := HO.out.kept hb
    have l1 := HO.out.lts (i := s.b) (by simp)
    have l2 := HO.out.lts (i := s.f) (by simp)
    refine (give_any W s.h s.p s.b s.f s.cap O.n O.B u (slotsL O.was) ho.board (HT.out.below hb) hn (fun e => by have := hg _ e; omega) (fun e => by have := hg _ e; omega) ho.pos).mono ?_
    rintro x w' ⟨⟨-, rfl, h3⟩ | ⟨h3, -⟩, h4⟩
    · exact ⟨rfl, ho.boardTo h4 h3, (OvStep.ofBelow hb).trans (.ofOnly2 h4)⟩
    · exact absurd (was_good HOK.out) h3
  have HS : Hid (∀ W O', OvAt W q s O' → W.cell? ⟨q, 0, none⟩ = some (.pointer (some ⟨s.h, 0, none⟩)) ∧ W.cell? ⟨q, 2, none⟩ = some (.map (some s.Y))) := fun W O' ho => ⟨ho.cells.1, ho.cells.2.2.1⟩
  clear hO hl hok ht hsl
  go_enter Tryz.func14, Tryz.ntmps14
  go_wp2_with fail
  go_region_held3 (fun w' => w'.cell? ⟨q, 0, none⟩ = some (.pointer (some ⟨s.h, 0, none⟩)) ∧ w'.cell? ⟨q, 2, none⟩ = some (.map (some s.Y))) (first | exact HS.out _ _ HO.out.drew | exact HS.out _ _ HO1.out | exact HS.out _ _ HO2.out) (first
    | (go_at_call 29; with_reducible refine HP3.out.mono ?_; rintro e w1 ⟨u1, rfl, hn1, hb1, hg1⟩
       have HG2 := HGI.out w1 u1 hb1 hn1 hg1
       have HO1 : Hid (OvAt w1 q s O) := HO.out.kept hb1
       clear hn1 hb1 hg1)
    | (go_at_call 40; with_reducible refine HG2.mono ?_; rintro e w2 ⟨rfl, ho2, hs2⟩
       have HO2 : Hid (OvAt w2 q s { O with B := giveB O.B (slotsL O.was) }) := ho2
       have HS2 : Hid (OvStep s w w2) := hs2
       clear ho2 hs2))
  all_goals
    obtain ⟨w3, hcl, hm3, hg3⟩ := HO2.out.was.clear 0
    have hcl' : (Builtin.clear_ #[68] 0 #[.map (some s.Y)]).run Tryz.prog w2 = .ok (.tuple #[]) w3 := hcl
    have HO3 : Hid (OvAt w3 q s { O with B := giveB O.B (slotsL O.was), was := [] }) := HO2.out.wasTo hg3 hm3
    have HS3 : Hid (OvStep s w w3) := HS2.out.grown hg3 (.inr (.inl rfl))
    obtain ⟨-, -, c2, -⟩ := HO2.out.cells
    obtain ⟨d0, d1, d2, d3⟩ := HO3.out.cells
    obtain ⟨D, hown, hD⟩ := HO3.out.fresh
    have HD : Hid (EntL D O.fresh) := hD
    have HSD : Hid (Maps.size D ≤ 490) := by unfold Hid; rw [hD.size]; exact HL.out.2.2
    obtain ⟨n, hn⟩ : ∃ n, n = O.fresh.length := ⟨_, rfl⟩
    rw [← hn] at hown
    clear hcl hm3 hg3 HG2 HGI HP3 HS HO1 hD hn
    go_wp2_with (first
      | (at_range; refine wpList_range_own _ rfl _ 68 rfl 32 37 lawK Tryz.underlying68 entR s.Z n D rfl hown ?_; intro w0 hrg0 hg0 hs0)
      | go_in)
    go_frame
    obtain ⟨R, hR⟩ : ∃ R, R = w3.heap.size := ⟨_, rfl⟩
    have HBL : Hid (∀ i, i = q ∨ i = s.h ∨ i = s.p ∨ i = s.b ∨ i = s.f ∨ i = s.X ∨ i = s.Y ∨ i = s.Z → i < R) := fun i hi => by rw [hR]; exact HO3.out.lts hi
    have HWR : Hid (w.heap.size ≤ R) := by rw [hR]; exact HS3.out.size
    have hb0 : Below w3.heap.size w3 w0 := ⟨hg0.os, hg0.tape, hg0.output, hg0.size, fun i hi => hg0.block i hi (by simp)⟩
    have HO0 : Hid (OvAt w0 q s { O with B := giveB O.B (slotsL O.was), was := [], base := layL O.base [] }) := HO3.out.kept hb0
    have HS0 : Hid (OvStep s w w0) := HS3.out.below hb0
    rw [← hR] at hrg0 hs0
    rw [← hR]
    try rw [← hR]
    clear hR hb0 HS2 HO2 HO3 HS3 c2 d0 d1 d2 d3 hcl'
    go_loopw [] (fun wr => ∃ (left : Lit → Bool) (cnt : Nat) (ss : List Md), wr.ranges Tryz.prog 32 entR s.Z R n D left cnt ∧ ss.length + cnt ≤ Maps.size D ∧ Hid (MetL O.fresh left ss) ∧
        Hid (OvAt wr q s { O with B := giveB O.B (slotsL O.was), was := [], base := layL O.base ss }) ∧ Hid (OvStep s w wr) ∧ R + 1 ≤ wr.heap.size)
      (fun wr => wr.rangeLeft s.Z R)
    case atStart =>
      exact ⟨_, _, [], hrg0, by simp, MetL.start HD.out, HO0.out, HS0.out, by omega⟩
    case round =>
      obtain ⟨left, cnt, ss, hrg, hcs, HM, HO3, HS3, hsz⟩ := hrel
      have HRG : Hid (wr.ranges Tryz.prog 32 entR s.Z R n D left cnt) := hrg
      have HCS : Hid (ss.length + cnt ≤ Maps.size D) := hcs
      have HSW : Hid (R + 1 ≤ wr.heap.size) := hsz
      clear hrg hcs hsz hown hrg0 hg0 hs0 HO0 HS0
      go_wp2_with (first
        | (at_next; refine wpList_next_ranges _ rfl _ rfl 32 lawK entR (fun x : Ky => Value.agg #[.int .i64 x.1, .int .i64 x.2]) evalE invK10 invV11 s.Z R n _ _ _ rfl HRG.out ?_ ?_)
        | go_in)
      · intro hc0 hl0
        have HALL : Hid (ss.Perm O.fresh) := HM.out.all HD.out.fit HD.out.rise hl0
        have HLY : Hid (layL O.base ss = applyM O.base O.fresh []) := layL_is HOK.out.rb HOK.out.rf HALL.out
        rw [HLY.out] at HO3
        obtain ⟨w5, hcl, hm5, hg5⟩ := HO3.out.fresh.clear 0
        have hcl' : (Builtin.clear_ #[68] 0 #[.map (some s.Z)]).run Tryz.prog wr = .ok (.tuple #[]) w5 := hcl
        have HO5 : Hid (OvAt w5 q s (commitO O)) := HO3.out.freshTo hg5 hm5
        have HS5 : Hid (OvStep s w w5) := HS3.out.grown hg5 (.inr (.inr rfl))
        obtain ⟨-, -, -, c3⟩ := HO3.out.cells
        clear hc0 hl0 hcl hm5 hg5 HRG HM HALL HCS HLY
        go_wp2
        go_end0
        exact ⟨rfl, HO5.out, HS5.out⟩
      · intro h p e1 e2 e3 kl yd yp w2 cnt2 hkey hlk hv hat hrg2 hlt2 hg2 hs2 hen
        obtain ⟨x, hx', ex, rfl⟩ := keyOf_inv hkey
        obtain ⟨h', p'⟩ := x
        simp only [Value.agg.injEq, Array.mk.injEq, List.cons.injEq, Value.int.injEq, true_and, and_true] at ex
        obtain ⟨rfl, rfl⟩ := ex
        obtain ⟨⟨s', g', u'⟩, ev, ey⟩ := entR_inv hv
        simp only [evalE, Value.agg.injEq, Array.mk.injEq, List.cons.injEq, Value.int.injEq, true_and, and_true] at ev
        obtain ⟨rfl, rfl, e4⟩ := ev
        obtain rfl : e3 = u' := by omega
        clear e4
        simp only [Prod.mk.injEq] at ey
        obtain ⟨rfl, rfl⟩ := ey
        have HF : Hid (findM O.fresh (h, p) = some (e1, e2, e3)) := HD.out.at_ hx' hat
        have HM2 : Hid (MetL O.fresh (fun z => left z && !z.sameKey (klit (h, p))) (ss ++ [md (h, p) (e1, e2, e3)])) := HM.out.step (D := D) hx' hlk HF.out
        have HX : Hid (KI (h, p)) := hx'
        have HO4 : Hid (OvAt w2 q s { O with B := giveB O.B (slotsL O.was), was := [], base := layL O.base ss }) := HO3.out.blocks fun i hi => grown_block hg2 (HO3.out.lts hi) (Nat.ne_of_lt (HBL.out i hi))
        have HS4 : Hid (OvStep s w w2) := HS3.out.grownNew hg2 HWR.out
        have HS2 : Hid (R + 1 ≤ w2.heap.size) := Nat.le_trans HSW.out hg2.size
        have HRG2 : Hid (w2.ranges Tryz.prog 32 entR s.Z R n D (fun z => left z && !z.sameKey (klit (h, p))) cnt2) := hrg2
        have HLT : Hid (cnt2 < cnt) := hlt2
        have hm2 := HRG.out.left_eq
        clear hkey hlk hv hat hrg2 hlt2 hg2 hs2 hx' HM HO3 HS3 HF
        obtain ⟨V, hV⟩ : ∃ V, V = (w2.alloc (.cells #[.int .i64 h, .int .i64 p] 32)).alloc (.cells #[.int .i64 e1, .int .i64 e2, .int .u32 (e3 : Nat)] 37) := ⟨_, rfl⟩
        have hs : (w2.alloc (.cells #[.int .i64 h, .int .i64 p] 32)).heap.size = w2.heap.size + 1 := by simp
        have HBV : Hid (Below w2.heap.size w2 V) := by rw [hV]; exact ((Below.refl _ _).alloc (Nat.le_refl _) _).alloc (by simp) _
        have HGA : Hid (V.heap[w2.heap.size]? = some (.cells #[.int .i64 h, .int .i64 p] 32 (0, 0))) := by
          rw [hV]
          exact (((Below.refl _ _).alloc (Nat.le_refl _) _ : Below _ (w2.alloc (.cells #[.int .i64 h, .int .i64 p] 32)) _).block w2.heap.size (by simp)).trans (heap_alloc_new w2 _)
        have HGE : Hid (V.heap[w2.heap.size + 1]? = some (.cells #[.int .i64 e1, .int .i64 e2, .int .u32 (e3 : Nat)] 37 (0, 0))) := by
          have := heap_alloc_new (w2.alloc (.cells #[.int .i64 h, .int .i64 p] 32)) (.cells #[.int .i64 e1, .int .i64 e2, .int .u32 (e3 : Nat)] 37)
          rw [hs] at this
          rw [hV]; exact this
        have HRV : Hid (V.drew.ranges Tryz.prog 32 entR s.Z R n D (fun z => left z && !z.sameKey (klit (h, p))) cnt2) := by
          refine World.ranges.kept (w := V) ?_ (grown_below (Below.refl _ _).drew) (by simp) (by simp)
          rw [hV]
          exact (HRG2.out.alloc _).alloc _
        have HOV : Hid (OvAt V q s { O with B := giveB O.B (slotsL O.was), was := [], base := layL O.base ss }) := HO4.out.kept HBV.out
        have HSV : Hid (OvStep s w V) := HS4.out.below HBV.out
        have HLB : Hid (MapL V s.X (layL O.base ss)) := HOV.out.base
        obtain ⟨V2, hup, hm, hg⟩ := HLB.out.drew.put (by have h1 := layL_len HOK.out.rb ss; have := HL.out; have := HCS.out; have := HSD.out; omega) HX.out (e1, e2, e3)
        have HUP : (Instr.mapUpdate 68 (.map (some s.X)) (.agg #[.int .i64 h, .int .i64 p]) (.agg #[.int .i64 e1, .int .i64 e2, .int .u32 (e3 : Nat)])).run Tryz.prog V.drew = .ok () V2 := hup
        have HO5 : Hid (OvAt V2 q s { O with B := giveB O.B (slotsL O.was), was := [], base := layL O.base (ss ++ [md (h, p) (e1, e2, e3)]) }) := by
          unfold Hid
          rw [layL_snoc]
          exact HOV.out.drew.baseTo hg hm
        have HS5 : Hid (OvStep s w V2) := HSV.out.drew.grown hg (.inl rfl)
        have HRG5 : Hid (V2.ranges Tryz.prog 32 entR s.Z R n D (fun z => left z && !z.sameKey (klit (h, p))) cnt2) := HRV.out.kept hg (fun e => HOV.out.ne.2.1 (Option.some.inj e).symm) (fun e => by have := HBL.out s.X (by simp); have := Option.some.inj e; omega)
        have HZ5 : Hid (R + 1 ≤ V2.heap.size) := Nat.le_trans HS2.out (Nat.le_trans HBV.out.size hg.size)
        have HSS : Hid (∀ W, Below V.heap.size V W → ((W.cell? ⟨w2.heap.size, 0, none⟩ = some (.int .i64 h) ∧ W.cell? ⟨w2.heap.size, 1, none⟩ = some (.int .i64 p)) ∧ W.cell? ⟨q, 1, none⟩ = some (.map (some s.X))) ∧ W.cell? ⟨w2.heap.size + 1, 0, none⟩ = some (.int .i64 e1) ∧ W.cell? ⟨w2.heap.size + 1, 1, none⟩ = some (.int .i64 e2) ∧ W.cell? ⟨w2.heap.size + 1, 2, none⟩ = some (.int .u32 (e3 : Nat))) := fun W hb => ⟨⟨cells2' ((hb.block _ (lt_of_heap HGA.out)).trans HGA.out), (HOV.out.kept hb).cells.2.1⟩, (cells3' ((hb.block _ (lt_of_heap HGE.out)).trans HGE.out)).1⟩
        have HSE : Hid (((V2.cell? ⟨w2.heap.size, 0, none⟩ = some (.int .i64 h) ∧ V2.cell? ⟨w2.heap.size, 1, none⟩ = some (.int .i64 p)) ∧ V2.cell? ⟨q, 1, none⟩ = some (.map (some s.X))) ∧ V2.cell? ⟨w2.heap.size + 1, 0, none⟩ = some (.int .i64 e1) ∧ V2.cell? ⟨w2.heap.size + 1, 1, none⟩ = some (.int .i64 e2) ∧ V2.cell? ⟨w2.heap.size + 1, 2, none⟩ = some (.int .u32 (e3 : Nat))) :=
          ⟨⟨cells2' ((grown_block hg (lt_of_heap (w := V.drew) HGA.out) (ne_map HGA.out HLB.out)).trans HGA.out), HO5.out.cells.2.1⟩, (cells3' ((grown_block hg (lt_of_heap (w := V.drew) HGE.out) (ne_map HGE.out HLB.out)).trans HGE.out)).1⟩
        have hm1 := HRG5.out.left_eq
        go_wp2_with fail
        rw [← hV]
        try rw [hs]
        generalize w2.heap.size = A at *
        generalize hE : A + 1 = E at *
        clear hV hs hup hm hg hE HBV HGA HGE HLB HRV HRG2 HS2 HO4 HS4 HX hen
        go_region_held3 (fun w' => ((w'.cell? ⟨A, 0, none⟩ = some (.int .i64 h) ∧ w'.cell? ⟨A, 1, none⟩ = some (.int .i64 p)) ∧ w'.cell? ⟨q, 1, none⟩ = some (.map (some s.X))) ∧ w'.cell? ⟨E, 0, none⟩ = some (.int .i64 e1) ∧ w'.cell? ⟨E, 1, none⟩ = some (.int .i64 e2) ∧ w'.cell? ⟨E, 2, none⟩ = some (.int .u32 (e3 : Nat))) (first | exact HSS.out _ (Below.refl _ _).drew | exact HSE.out) (fail)
        all_goals
          clear HSS HSE HUP
          go_wp2
          go_roundw
          case rel =>
            exact ⟨_, cnt2, ss ++ [md (h, p) (e1, e2, e3)], HRG5.out, by have := HCS.out; have := HLT.out; simp; omega, HM2.out, HO5.out, HS5.out, HZ5.out⟩
          case measure => rw [hm1, hm2]; exact HLT.out
end Go.Proofs.YtjhkcdnfnmglhaaGreatDoor

/- The document's board; 'Ints', 'Free'. -/
namespace Go.Proofs.YtjhkcdnfnmglhaaGreatDoor
open Go.RowKit
set_option linter.unusedVariables false
set_option maxRecDepth 20000

structure RefB (w : World) (p b n : Nat) (B : Nat → Bool) : Prop where
  head : w.heap[p]? = some (.cells #[.slice (some ⟨b, 0, none⟩) n n] 107 (0, 0))
  body : w.heap[b]? = some (.cells (boolL B n).toArray 4 (0, 0))
theorem RefB.s_cell {w : World} {p b n : Nat} {B : Nat → Bool} (h : RefB w p b n B) : w.cell? ⟨p, 0, none⟩ = some (.slice (some ⟨b, 0, none⟩) n n) := by
  rw [cell_of_row w p _ _ _ _ h.head]; rfl
theorem RefB.b_cell {w : World} {p b n : Nat} {B : Nat → Bool} (h : RefB w p b n B) (j : Nat) (hj : j < n) : w.cell? ⟨b, j, none⟩ = some (.bool (B j)) := by
  rw [cell_of_row w b _ _ _ _ h.body, boolL_at B _ j hj]
theorem RefB.b_free {w : World} {p b n : Nat} {B : Nat → Bool} (h : RefB w p b n B) (j : Nat) : w.frozen? ⟨b, j, none⟩ = false := by
  simp [World.frozen?, h.body]
theorem RefB.p_lt {w : World} {p b n : Nat} {B : Nat → Bool} (h : RefB w p b n B) : p < w.heap.size := lt_of_heap h.head
theorem RefB.b_lt {w : World} {p b n : Nat} {B : Nat → Bool} (h : RefB w p b n B) : b < w.heap.size := lt_of_heap h.body
theorem RefB.ne {w : World} {p b n : Nat} {B : Nat → Bool} (h : RefB w p b n B) : p ≠ b := ne_type h.head h.body (by decide)
theorem RefB.same {w w' : World} {p b n : Nat} {B : Nat → Bool} (h : RefB w p b n B) (h1 : w'.heap[p]? = w.heap[p]?) (h2 : w'.heap[b]? = w.heap[b]?) : RefB w' p b n B := ⟨h1.trans h.head, h2.trans h.body⟩
theorem RefB.below {w w' : World} {p b n : Nat} {B : Nat → Bool} (h : RefB w p b n B) (hb : Below w.heap.size w w') : RefB w' p b n B := h.same (hb.block _ h.p_lt) (hb.block _ h.b_lt)
theorem RefB.drewN {w : World} {p b n : Nat} {B : Nat → Bool} (h : RefB w p b n B) (m : Nat) : RefB (w.drewN m) p b n B := ⟨h.head, h.body⟩
theorem RefB.drew {w : World} {p b n : Nat} {B : Nat → Bool} (h : RefB w p b n B) : RefB w.drew p b n B := ⟨h.head, h.body⟩
theorem RefB.put {w : World} {p b n a : Nat} {B : Nat → Bool} (h : RefB w p b n B) (ha : a < n) (c : Bool) : RefB (w.setCell ⟨b, a, none⟩ (.bool c)) p b n (putB B a 1 c) := by
  refine ⟨(Below.heap_setCell w _ _ p h.ne).trans h.head, ?_⟩
  have := heap_set_row h.body a (.bool c)
  have e : (boolL B n).toArray.setIfInBounds a (Value.bool c) = (boolL (putB B a 1 c) n).toArray := by
    apply Array.ext_getElem?
    intro i
    rw [Array.getElem?_setIfInBounds]
    by_cases hi : a = i
    · subst hi
      rw [if_pos rfl, if_pos (by simp [boolL_length, ha]), boolL_at _ _ _ ha, putB_at]
    · rw [if_neg hi]
      by_cases hl : i < n
      · rw [boolL_at _ _ _ hl, boolL_at _ _ _ hl, putB_off c (fun e => hi e.symm)]
      · rw [Array.getElem?_eq_none (by simp [boolL_length]; omega), Array.getElem?_eq_none (by simp [boolL_length]; omega)]
  rwa [e] at this
/-- A board's two blocks turned. -/
theorem RefB.only2 {w w' : World} {p b n q pp bb f cap m : Nat} {B C : Nat → Bool} (h : RefB w p b n B) (hb : BoardAt w q pp bb f cap m C) (ho : Only2 bb f w w') : RefB w' p b n B := by
  obtain ⟨cur, h2, h3⟩ := hb.nums
  exact h.same (ho.heap h.p_lt (ne_type h.head hb.row.body (by decide)) (ne_type h.head h2 (by decide))) (ho.heap h.b_lt (ne_type h.body hb.row.body (by decide)) (ne_type h.body h2 (by decide)))
theorem BoardAt.only_ref {w w' : World} {q p b f cap n rp rb m : Nat} {B C : Nat → Bool} (h : BoardAt w q p b f cap n B) (hr : RefB w rp rb m C) (ho : Only rb w w') : BoardAt w' q p b f cap n B :=
  h.only ho hr.body (by decide) (by decide) (by decide) (by decide)

/-! ### Ints -/
theorem take_succ_int {us vs : List Int} {k : Nat} (h1 : k < us.length) (h2 : k < vs.length) (h : us.take k = vs.take k) (e : us[k]?.getD 0 = vs[k]?.getD 0) : us.take (k + 1) = vs.take (k + 1) := by
  rw [take_one h1, take_one h2, h, e]
set_option maxRecDepth 20000 in
set_option maxHeartbeats 1000000 in
theorem ints_any (w : World) (x y : Value) (us vs : List Int) (hx : Nums w x us) (hy : Nums w y vs) :
    Calls Tryz.prog 44 #[x, y] w fun e w' => e = .returned (.bool (decide (us = vs))) ∧ ∃ m, w' = w.drewN m := by
  obtain ⟨a, ca, rfl⟩ := hx.shape
  obtain ⟨b, cb, rfl⟩ := hy.shape
  have hl : us.length ≤ 9223372036854775807 := by have := hx.2.1; unfold maxLen at this; omega
  have hl2 : vs.length ≤ 9223372036854775807 := by have := hy.2.1; unfold maxLen at this; omega
  by_cases hne : us.length = vs.length
  · have HE : Hid (us.length = vs.length) := hne
    rw [← hne] at hy ⊢
    have HX : Hid (Nums w (.slice a us.length ca) us) := hx
    have HY : Hid (Nums w (.slice b us.length cb) vs) := hy
    clear hx hy hne hl2
    obtain ⟨n, hn⟩ : ∃ n, n = us.length := ⟨_, rfl⟩
    rw [← hn] at HX HY hl HE ⊢
    have HN : Hid (n = us.length) := hn
    clear hn
    go_enter Tryz.func44, Tryz.ntmps44
    go_wp2_with fail
    go_loopw [5] (fun i wr => ∃ k : Nat, i = .int .i64 (k : Nat) ∧ k ≤ n ∧ Hid (us.take k = vs.take k) ∧ ∃ m, wr = w.drewN m) (fun i _ => n - (intOf i).toNat)
    case atStart => exact ⟨0, rfl, Nat.zero_le _, rfl, 0, rfl⟩
    case round =>
      obtain ⟨k, rfl, hk, HT, m, rfl⟩ := hrel
      by_cases hlt : k < n
      · obtain ⟨p, off, rfl, hp, hc1⟩ := HX.out.addr (by omega)
        obtain ⟨q, of2, rfl, hq, hc2⟩ := HY.out.addr (by omega)
        have c1 := hc1 k hlt
        have c2 := hc2 k hlt
        have HS : Hid (us[k]?.getD 0 = vs[k]?.getD 0 → us.take (k + 1) = vs.take (k + 1)) := take_succ_int (by have := HN.out; omega) (by have := HN.out; have := HE.out; omega) HT.out
        have HD : Hid (us[k]?.getD 0 ≠ vs[k]?.getD 0 → us ≠ vs) := fun h e => h (by rw [e])
        clear hc1 hc2 hp hq
        generalize us[k]?.getD 0 = u at *
        generalize vs[k]?.getD 0 = v at *
        by_cases huv : u = v
        · have h3 := HS.out huv
          have HS3 : Hid (us.take (k + 1) = vs.take (k + 1)) := h3
          clear h3 HS
          subst huv
          go_wp2_with fail
          go_quiet (fail)
          go_wp2
          go_roundw
          case rel => exact ⟨k + 1, by go_num, by omega, HS3, _, rfl⟩
          case measure => simp [intOf]; omega
        · have hcmp : (u != v) = true := by simp [huv]
          have HD2 : Hid (us ≠ vs) := HD.out huv
          clear HD HS huv
          go_wp2_with fail
          go_quiet (fail)
          go_wp2
          go_ret
          exact ⟨ret_bool (decide_eq_false HD2.out).symm, _, World.drewN_drewN _ _ _⟩
      · have HA : Hid (us = vs) := by
          have h1 := HT.out
          have h2 := HN.out
          have h3 := HE.out
          rwa [List.take_of_length_le (by omega), List.take_of_length_le (by omega)] at h1
        go_wp2
        go_ret
        exact ⟨ret_bool (decide_eq_true HA.out).symm, _, rfl⟩
  · have HD : Hid (us ≠ vs) := fun e => hne (by rw [e])
    have hcmp : (((us.length : Nat) : Int) != (vs.length : Nat)) = true := by simp; omega
    clear hne hx hy
    generalize us.length = n at *
    generalize vs.length = m at *
    go_enter Tryz.func44, Tryz.ntmps44
    go_wp2
    go_ret
    exact ⟨ret_bool (decide_eq_false HD.out).symm, 0, rfl⟩

/-! ### Free -/
set_option maxRecDepth 20000 in
theorem refFree_any (w : World) (p b n : Nat) (B : Nat → Bool) (h : RefB w p b n B) (hn : n ≤ 65536) :
    Calls Tryz.prog 47 #[.pointer (some ⟨p, 0, none⟩)] w fun x w' => x = .returned (.int .i64 (n - cnt B 0 n : Nat)) ∧ w' = w := by
  have hs := h.s_cell
  have HC : Hid (∀ j, j < n → w.cell? ⟨b, j, none⟩ = some (.bool (B j))) := fun j hj => h.b_cell j hj
  clear h
  go_enter Tryz.func47, Tryz.ntmps47
  go_wp2
  go_loop [3, 4] (fun c i => ∃ k x : Nat, k ≤ n ∧ i = .int .i64 (k : Nat) ∧ c = .int .i64 (x : Nat) ∧ x ≤ k ∧ Hid (x = k - cnt B 0 k)) (fun _ i => n - (intOf i).toNat)
  case atStart => exact ⟨0, 0, Nat.zero_le _, rfl, rfl, Nat.le_refl _, rfl⟩
  case round =>
    obtain ⟨k, x, hk, rfl, rfl, hxk, HX⟩ := hrel
    by_cases hlt : k < n
    · have hc := HC.out k hlt
      have HA : Hid (cnt B 0 (k + 1) = cnt B 0 k + (B k).toNat) := by unfold Hid; rw [cnt, Nat.zero_add]
      have HL : Hid (cnt B 0 k ≤ k) := cnt_le B 0 k
      cases hB : B k
      · rw [hB] at hc HA
        go_wp2
        go_round
        case rel => exact ⟨k + 1, x + 1, by omega, by go_num, by go_num, by omega, by unfold Hid; have h1 := HA.out; have h2 := HX.out; have h3 := HL.out; simp at h1; omega⟩
        case measure => simp [intOf]; omega
      · rw [hB] at hc HA
        go_wp2
        go_round
        case rel => exact ⟨k + 1, x, by omega, by go_num, rfl, by omega, by unfold Hid; have h1 := HA.out; have h2 := HX.out; have h3 := HL.out; simp at h1; omega⟩
        case measure => simp [intOf]; omega
    · obtain rfl : k = n := by omega
      go_wp2
      go_ret
      exact ⟨ret_int (by have := HX.out; omega), rfl⟩

end Go.Proofs.YtjhkcdnfnmglhaaGreatDoor

/- The document's 'Give'. -/
namespace Go.Proofs.YtjhkcdnfnmglhaaGreatDoor
open Go.RowKit
set_option linter.unusedVariables false
set_option maxRecDepth 20000

def GiveR (w : World) (p b n : Nat) (B : Nat → Bool) (zs : List Int) (x : Ending) (w' : World) : Prop :=
  ((GoodG n B zs ∧ x = .returned (.int .i64 0) ∧ RefB w' p b n (giveB B zs)) ∨ (¬ GoodG n B zs ∧ x = .returned (.int .i64 2) ∧ RefB w' p b n B)) ∧ Only b w w'
theorem goodG_step' {n j s : Nat} {B : Nat → Bool} {zs : List Int} (hg : GoodG n B (zs.take j)) (hj : j < zs.length) (hz : zs[j]?.getD 0 = (s : Int)) (hs : s < n) (hB : B s = true) (hn : ∀ i, i < j → zs[i]?.getD 0 ≠ (s : Int)) :
    GoodG n B (zs.take (j + 1)) := by
  refine (goodG_step hg hj hz hs (giveB_is hB fun hm => ?_)).1
  obtain ⟨i, h1, h2, h3⟩ := mem_take hm
  exact hn i h1 (by rw [h3]; rfl)
theorem giveB_mem {B : Nat → Bool} {zs : List Int} {s : Nat} (h : (s : Int) ∈ zs) : giveB B zs s = false := by
  unfold giveB
  rw [List.contains_iff_mem.2 h]
  simp
theorem giveR_no {w : World} {p b n : Nat} {B : Nat → Bool} {zs : List Int} (h : RefB w p b n B) (hn : ¬ GoodG n B zs) (m : Nat) : GiveR w p b n B zs (.returned (.int .i64 2)) (w.drewN m) :=
  ⟨.inr ⟨hn, rfl, h.drewN m⟩, Only.ofBelow (below_drewN w m)⟩
set_option maxRecDepth 20000 in
set_option maxHeartbeats 4000000 in
theorem refGive_any (w : World) (p b n : Nat) (B : Nat → Bool) (v : Value) (zs : List Int) (h : RefB w p b n B) (hn : n ≤ 65536) (hv : Nums w v zs) (hvb : zs ≠ [] → v.ownBlock ≠ some b) :
    Calls Tryz.prog 41 #[.pointer (some ⟨p, 0, none⟩), v] w fun x w' => GiveR w p b n B zs x w' := by
  have H : Hid (RefB w p b n B) := h
  have HV : Hid (Nums w v zs) := hv
  obtain ⟨a, c, rfl⟩ := hv.shape
  obtain ⟨L, hL⟩ : ∃ L, L = zs.length := ⟨_, rfl⟩
  rw [← hL] at HV hvb ⊢
  have hLm : L ≤ 9223372036854775807 := by have := HV.out.capLe; unfold maxLen at this; omega
  have HL : Hid (L = zs.length) := hL
  have HVB : Hid (zs ≠ [] → (Value.slice a L c).ownBlock ≠ some b) := hvb
  clear h hv hL hvb
  go_enter Tryz.func41, Tryz.ntmps41
  go_wp2_with fail
  go_loopw [5] (fun i wr => ∃ k : Nat, i = .int .i64 (k : Nat) ∧ k ≤ L ∧ Hid (GoodG n B (zs.take k)) ∧ ∃ m, wr = w.drewN m) (fun i _ => L - (intOf i).toNat)
  case atStart => exact ⟨0, rfl, Nat.zero_le _, goodG_nil _ _, 0, rfl⟩
  case round =>
    obtain ⟨k, rfl, hk, hG, m0, rfl⟩ := hrel
    by_cases hlt : k < L
    · obtain ⟨g, off, rfl, hgl, hcell⟩ := HV.out.addr (by omega)
      have hc := hcell k hlt
      have hs := H.out.s_cell
      have hsm := HV.out.small k
      have hkl : k < zs.length := by have := HL.out; omega
      have HSTOP : Hid (zs[k]?.getD 0 < 0 ∨ (n : Int) ≤ zs[k]?.getD 0 ∨ (∃ s : Nat, zs[k]?.getD 0 = (s : Int) ∧ giveB B (zs.take k) s = false) → ¬ GoodG n B zs) := goodG_stop hkl
      have HSTEP : Hid (∀ s : Nat, zs[k]?.getD 0 = (s : Int) → s < n → B s = true → (∀ i, i < k → zs[i]?.getD 0 ≠ (s : Int)) → GoodG n B (zs.take (k + 1))) := fun s => goodG_step' hG.out hkl
      have HCELL : Hid (∀ j, j < L → w.cell? ⟨g, off + j, none⟩ = some (.int .i64 (zs[j]?.getD 0))) := hcell
      have HTW : Hid (∀ i, i < k → zs[i]?.getD 0 ∈ zs.take k) := fun i hi => by
        have hil : i < zs.length := by omega
        rw [List.getElem?_eq_getElem hil, Option.getD_some]
        exact List.mem_take_iff_getElem.2 ⟨i, by omega, rfl⟩
      have HNO : Hid (¬ GoodG n B zs → ∀ m : Nat, GiveR w p b n B zs (.returned (.int .i64 2)) (w.drewN m)) := fun h m => giveR_no H.out h m
      obtain ⟨z, hz⟩ : ∃ z, z = zs[k]?.getD 0 := ⟨_, rfl⟩
      rw [← hz] at hc hsm HSTOP HSTEP
      have hz1 := hsm.1
      have hz2 := hsm.2
      clear hcell hgl hz hkl hsm
      by_cases hneg : z < 0
      · have HN : Hid (¬ GoodG n B zs) := HSTOP.out (.inl hneg)
        go_wp2_with fail
        refine wp_region_quiet_lit (by kernel_rfl) (by kernel_rfl) ?_
        generalize hA : Act.mk _ _ = fr9
        repeat (refine wpQuiet_step (fun K hK => ?_); subst hA; go_simp; generalize hA : Act.mk _ _ = fr9; refine hK _ ?_; clear hK K)
        refine wpQuiet_nil ?_
        subst hA
        intro _ hw9
        obtain ⟨nq, hx9⟩ := hw9
        subst hx9
        go_wp2
        go_ret
        rw [World.drewN_drewN]
        exact HNO.out HN.out _
      · obtain ⟨s, hs'⟩ : ∃ s : Nat, z = (s : Int) := ⟨z.toNat, by rw [Int.toNat_of_nonneg]; omega⟩
        subst hs'
        clear hneg hz1
        have hd : decide ((s : Int) < 0) = false := decide_eq_false (by omega)
        by_cases hbig : n ≤ s
        · have HN : Hid (¬ GoodG n B zs) := HSTOP.out (.inr (.inl (by omega)))
          go_wp2_with fail
          refine wp_region_quiet_lit (by kernel_rfl) (by kernel_rfl) ?_
          generalize hA : Act.mk _ _ = fr9
          repeat (refine wpQuiet_step (fun K hK => ?_); subst hA; go_simp; generalize hA : Act.mk _ _ = fr9; refine hK _ ?_; clear hK K)
          refine wpQuiet_nil ?_
          subst hA
          intro _ hw9
          obtain ⟨nq, hx9⟩ := hw9
          subst hx9
          go_wp2
          go_ret
          rw [World.drewN_drewN]
          exact HNO.out HN.out _
        · have hsn : s < n := by omega
          have hb := H.out.b_cell s hsn
          cases hB : B s
          · rw [hB] at hb
            have HN : Hid (¬ GoodG n B zs) := HSTOP.out (.inr (.inr ⟨s, rfl, by unfold giveB; rw [hB]; rfl⟩))
            clear hbig hB
            go_wp2_with fail
            refine wp_region_quiet_lit (by kernel_rfl) (by kernel_rfl) ?_
            generalize hA : Act.mk _ _ = fr9
            repeat (refine wpQuiet_step (fun K hK => ?_); subst hA; go_simp; generalize hA : Act.mk _ _ = fr9; refine hK _ ?_; clear hK K)
            refine wpQuiet_nil ?_
            subst hA
            intro _ hw9
            obtain ⟨nq, hx9⟩ := hw9
            subst hx9
            go_wp2
            go_ret
            rw [World.drewN_drewN]
            exact HNO.out HN.out _
          · rw [hB] at hb
            have HB : Hid (B s = true) := hB
            have HS2 : Hid ((s : Int) ∈ zs.take k → ¬ GoodG n B zs) := fun h => HSTOP.out (.inr (.inr ⟨s, rfl, giveB_mem h⟩))
            have HS3 : Hid ((∀ i, i < k → zs[i]?.getD 0 ≠ (s : Int)) → GoodG n B (zs.take (k + 1))) := HSTEP.out s rfl hsn HB.out
            have hd2 : decide ((n : Int) ≤ ((s : Nat) : Int)) = false := decide_eq_false (by omega)
            have hd3 : (n ≤ s) = False := eq_false (by omega)
            clear hB hbig HSTOP HSTEP HB
            go_wp2_with fail
            refine wp_region_quiet_lit (by kernel_rfl) (by kernel_rfl) ?_
            generalize hA : Act.mk _ _ = fr9
            repeat (refine wpQuiet_step (fun K hK => ?_); subst hA; go_simp; generalize hA : Act.mk _ _ = fr9; refine hK _ ?_; clear hK K)
            refine wpQuiet_nil ?_
            subst hA
            intro _ hw9
            obtain ⟨nq, hx9⟩ := hw9
            subst hx9
            go_wp2_with fail
            rw [World.drewN_drewN]
            go_loopw [6] (fun i wr => ∃ j : Nat, i = .int .i64 (j : Nat) ∧ j ≤ k ∧ Hid (∀ i, i < j → zs[i]?.getD 0 ≠ (s : Int)) ∧ ∃ m, wr = w.drewN m) (fun i _ => k - (intOf i).toNat)
            case atStart => exact ⟨0, rfl, Nat.zero_le _, fun i hi => absurd hi (by omega), _, rfl⟩
            case round =>
              obtain ⟨j, rfl, hjk, hJ, m1, rfl⟩ := hrel
              by_cases hjl : j < k
              · have hjL : j < L := by omega
                have hcj := HCELL.out j hjL
                have HTj := HTW.out j hjl
                have HTJ : Hid (zs[j]?.getD 0 ∈ zs.take k) := HTj
                have HJ2 : Hid (zs[j]?.getD 0 ≠ (s : Int) → ∀ i, i < j + 1 → zs[i]?.getD 0 ≠ (s : Int)) := fun h i hi => by
                  by_cases e : i = j
                  · rw [e]; exact h
                  · exact hJ.out i (by omega)
                clear HTj
                generalize zs[j]?.getD 0 = y at *
                by_cases hy : y = (s : Int)
                · have HN : Hid (¬ GoodG n B zs) := HS2.out (by rw [← hy]; exact HTJ.out)
                  subst hy
                  go_wp2_with fail
                  refine wp_region_quiet_lit (by kernel_rfl) (by kernel_rfl) ?_
                  generalize hA : Act.mk _ _ = fr9
                  repeat (refine wpQuiet_step (fun K hK => ?_); subst hA; go_simp; generalize hA : Act.mk _ _ = fr9; refine hK _ ?_; clear hK K)
                  refine wpQuiet_nil ?_
                  subst hA
                  intro _ hw9
                  obtain ⟨nq, hx9⟩ := hw9
                  subst hx9
                  go_wp2
                  go_ret
                  rw [World.drewN_drewN]
                  exact HNO.out HN.out _
                · have HJ3 : Hid (∀ i, i < j + 1 → zs[i]?.getD 0 ≠ (s : Int)) := HJ2.out hy
                  have hcmp : (y == (s : Int)) = false := by simp [hy]
                  clear HJ2 hy
                  go_wp2_with fail
                  refine wp_region_quiet_lit (by kernel_rfl) (by kernel_rfl) ?_
                  generalize hA : Act.mk _ _ = fr9
                  repeat (refine wpQuiet_step (fun K hK => ?_); subst hA; go_simp; generalize hA : Act.mk _ _ = fr9; refine hK _ ?_; clear hK K)
                  refine wpQuiet_nil ?_
                  subst hA
                  intro _ hw9
                  obtain ⟨nq, hx9⟩ := hw9
                  subst hx9
                  go_wp2
                  go_roundw
                  case rel => exact ⟨j + 1, by go_num, by omega, HJ3, _, rfl⟩
                  case measure => simp [intOf]; omega
              · have HG2 : Hid (GoodG n B (zs.take (k + 1))) := HS3.out fun i hi => hJ.out i (by omega)
                go_wp2
                go_roundw
                case rel => exact ⟨k + 1, by go_num, by omega, HG2, _, rfl⟩
                case measure => simp [intOf]; omega
    · obtain rfl : k = L := by omega
      have HZ : Hid (zs.take k = zs) := List.take_of_length_le (by have := HL.out; omega)
      have HE : Hid (GoodG n B zs) := by
        have := hG.out
        rwa [HZ.out] at this
      have H0 : Hid (RefB (w.drewN m0) p b n (giveB B (zs.take 0))) := by
        unfold Hid
        rw [List.take_zero, giveB_nil]; exact H.out.drewN _
      have H1 : Hid (Only b w (w.drewN m0)) := Only.ofBelow (below_drewN w m0)
      have hdk : (k < k) = False := eq_false (by omega)
      clear hlt hk
      go_wp2_with fail
      go_loopw [7] (fun i wr => ∃ j : Nat, i = .int .i64 (j : Nat) ∧ j ≤ k ∧ Hid (RefB wr p b n (giveB B (zs.take j))) ∧ Hid (Only b w wr)) (fun i _ => k - (intOf i).toNat)
      case atStart => exact ⟨0, rfl, Nat.zero_le _, H0, H1⟩
      case round =>
        obtain ⟨j, rfl, hj, hR, hO⟩ := hrel
        by_cases hlt : j < k
        · have HVr : Nums wr (.slice a k c) zs := HV.out.spared hO.out.size fun g hg hl => hO.out.heap hl fun e => HVB.out (fun e0 => by have := HL.out; rw [e0] at this; simp at this; omega) (e ▸ hg)
          obtain ⟨g, off, rfl, -, hcell⟩ := HVr.addr (by omega)
          have hc := hcell j hlt
          have hjl : j < zs.length := by have := HL.out; omega
          obtain ⟨s, hs, hsn⟩ : ∃ s : Nat, zs[j]?.getD 0 = (s : Int) ∧ s < n := by
            obtain ⟨s, h1, h2, _⟩ := HE.out.2 zs[j] (List.getElem_mem hjl)
            exact ⟨s, by rw [List.getElem?_eq_getElem hjl]; exact h1, h2⟩
          have hT : putB (giveB B (zs.take j)) s 1 false = giveB B (zs.take (j + 1)) := by
            rw [take_one hjl, hs]; exact giveB_put B _ s
          rw [hs] at hc
          have hsl := hR.out.s_cell
          have hbc := hR.out.b_cell s hsn
          have hbf := hR.out.b_free s
          have HP : Hid (RefB (wr.setCell ⟨b, s, none⟩ (.bool false)) p b n (giveB B (zs.take (j + 1)))) := by rw [← hT]; exact hR.out.put hsn false
          have HO2 : Hid (Only b w (wr.setCell ⟨b, s, none⟩ (.bool false))) := hO.out.setCell s _
          have hs16 : s < 65536 := by omega
          clear HVr hcell hs hT hjl
          go_wp2_with fail
          go_region_with (fail)
          all_goals
            go_wp2
            go_roundw
            case rel => exact ⟨j + 1, by go_num, by omega, HP.out.drew, HO2.out.drew⟩
            case measure => simp [intOf]; omega
        · obtain rfl : j = k := by omega
          have HE2 : Hid (RefB wr p b n (giveB B zs)) := by
            have := hR.out
            rwa [HZ.out] at this
          go_wp2
          go_ret
          exact ⟨.inl ⟨HE.out, rfl, HE2.out⟩, hO.out⟩
end Go.Proofs.YtjhkcdnfnmglhaaGreatDoor

/- The document's 'New' and 'Clusters'. -/
namespace Go.Proofs.YtjhkcdnfnmglhaaGreatDoor
open Go.RowKit
set_option linter.unusedVariables false
set_option maxRecDepth 20000

def NewR (w : World) (n : Nat) (zs : List Int) (x : Ending) (w' : World) : Prop :=
  Below w.heap.size w w' ∧ ((Good n zs ∧ ∃ p b, x = .returned (.pointer (some ⟨p, 0, none⟩)) ∧ w.heap.size ≤ b ∧ RefB w' p b n (takenB zs)) ∨ (¬ Good n zs ∧ x = .returned (.pointer none)))
/-- As NewR; the board itself is new too. -/
def NewR2 (w : World) (n : Nat) (zs : List Int) (x : Ending) (w' : World) : Prop :=
  Below w.heap.size w w' ∧ ((Good n zs ∧ ∃ p b, x = .returned (.pointer (some ⟨p, 0, none⟩)) ∧ (w.heap.size ≤ p ∧ w.heap.size ≤ b) ∧ RefB w' p b n (takenB zs)) ∨ (¬ Good n zs ∧ x = .returned (.pointer none)))
theorem NewR2.weak {w : World} {n : Nat} {zs : List Int} {x : Ending} {w' : World} (h : NewR2 w n zs x w') : NewR w n zs x w' :=
  ⟨h.1, h.2.elim (fun ⟨a, p, b, c, d, e⟩ => .inl ⟨a, p, b, c, d.2, e⟩) .inr⟩
theorem refNew_off (w : World) (n : Int) (v : Value) (hn : n < 1 ∨ 65536 < n) :
    Calls Tryz.prog 31 #[.int .i64 n, v] w fun x w' => x = .returned (.pointer none) ∧ w' = w := by
  by_cases h : n < 1
  · go_enter Tryz.func31, Tryz.ntmps31
    go_wp2
    go_ret
    exact ⟨rfl, rfl⟩
  · have h2 : 65536 < n := by omega
    go_enter Tryz.func31, Tryz.ntmps31
    go_wp2
    go_ret
    exact ⟨rfl, rfl⟩
set_option maxRecDepth 20000 in
set_option maxHeartbeats 1000000 in
theorem refNew9_new (w : World) (n : Nat) (v : Value) (zs : List Int) (hn1 : 1 ≤ n) (hn : n ≤ 65536) (hv : Nums w v zs) :
    Calls Tryz.prog 31 #[.int .i64 (n : Nat), v] w fun x w' => NewR2 w n zs x w' := by
  obtain ⟨i0, hi, hz0, hz1, hz2⟩ := info_parts Tryz.infoBool
  have HV : Hid (Nums w v zs) := hv
  obtain ⟨a, cp, rfl⟩ := hv.shape
  obtain ⟨L, hL⟩ : ∃ L, L = zs.length := ⟨_, rfl⟩
  rw [← hL] at HV ⊢
  have HL : Hid (L = zs.length) := hL
  have hLm : L ≤ 9223372036854775807 := by have := HV.out.capLe; unfold maxLen at this; omega
  clear hv hL
  have HM : Hid (∀ W : World, RefB ((W.alloc (.cells (madeCells #[Value.bool false] n) 4)).alloc (.cells #[.slice (some ⟨W.heap.size, 0, none⟩) n n] 107)) (W.heap.size + 1) W.heap.size n (takenB (zs.take 0))) := fun W => by
    rw [made_false, List.take_zero, takenB_nil]
    refine ⟨?_, ?_⟩
    · have := heap_alloc_new (W.alloc (.cells (boolL noneB n).toArray 4)) (.cells #[.slice (some ⟨W.heap.size, 0, none⟩) n n] 107)
      simpa using this
    · exact heap_in _ (heap_alloc_new W (.cells (boolL noneB n).toArray 4))
  have HM1 := HM.out w
  have HM2 : Hid (RefB ((w.alloc (.cells (madeCells #[Value.bool false] n) 4)).alloc (.cells #[.slice (some ⟨w.heap.size, 0, none⟩) n n] 107)) (w.heap.size + 1) w.heap.size n (takenB (zs.take 0))) := HM1
  have HB2 : Hid (Below w.heap.size w ((w.alloc (.cells (madeCells #[Value.bool false] n) 4)).alloc (.cells #[.slice (some ⟨w.heap.size, 0, none⟩) n n] 107))) := ((Below.refl _ _).alloc (Nat.le_refl _) _).alloc (by simp) _
  clear HM HM1
  go_enter Tryz.func31, Tryz.ntmps31
  go_wp2_with (at_make; refine wpList_make_exact _ rfl _ _ 105 rfl 4 i0 _ Tryz.underlying105 hi hz0 hz1 .i64 .i64 n rfl rfl ?c1 ?c2 ?_)
  case c1 => rw [hz2]; omega
  case c2 => unfold maxLen; omega
  go_wp2
  go_loopw [6] (fun i wr => ∃ k : Nat, i = .int .i64 (k : Nat) ∧ k ≤ L ∧ Hid (Good n (zs.take k)) ∧ Hid (RefB wr (w.heap.size + 1) w.heap.size n (takenB (zs.take k))) ∧ Hid (Below w.heap.size w wr)) (fun i _ => L - (intOf i).toNat)
  case atStart => exact ⟨0, rfl, Nat.zero_le _, good_nil _, HM2, HB2⟩
  case round =>
    obtain ⟨k, rfl, hk, hG, hR, hBe⟩ := hrel
    by_cases hlt : k < L
    · obtain ⟨g, off, rfl, hgl, hcell⟩ := HV.out.addr (by omega)
      have hc := (hBe.out.cell (p := ⟨g, off + k, none⟩) hgl).trans (hcell k hlt)
      have hkl : k < zs.length := by have := HL.out; omega
      have HSTOP : Hid (zs[k]?.getD 0 < 0 ∨ (n : Int) ≤ zs[k]?.getD 0 ∨ (∃ s : Nat, zs[k]?.getD 0 = (s : Int) ∧ takenB (zs.take k) s = true) → ¬ Good n zs) := good_stop hkl
      have HSTEP : Hid (∀ s : Nat, zs[k]?.getD 0 = (s : Int) → s < n → takenB (zs.take k) s = false → Good n (zs.take (k + 1)) ∧ takenB (zs.take (k + 1)) = putB (takenB (zs.take k)) s 1 true) := fun s h1 h2 h3 => good_step hG.out hkl h1 h2 h3
      have hsl := hR.out.s_cell
      clear hcell hgl hkl
      generalize zs[k]?.getD 0 = z at *
      by_cases hneg : z < 0
      · have HN : Hid (¬ Good n zs) := HSTOP.out (.inl hneg)
        go_wp2
        go_ret
        exact ⟨hBe.out, .inr ⟨HN.out, rfl⟩⟩
      · obtain ⟨s, hs'⟩ : ∃ s : Nat, z = (s : Int) := ⟨z.toNat, by rw [Int.toNat_of_nonneg]; omega⟩
        subst hs'
        by_cases hbig : n ≤ s
        · have HN : Hid (¬ Good n zs) := HSTOP.out (.inr (.inl (by omega)))
          go_wp2
          go_ret
          exact ⟨hBe.out, .inr ⟨HN.out, rfl⟩⟩
        · have hsn : s < n := by omega
          have hb := hR.out.b_cell s hsn
          have hbf := hR.out.b_free s
          cases hB : takenB (zs.take k) s
          · rw [hB] at hb
            obtain ⟨h1, h2⟩ := HSTEP.out s rfl hsn hB
            have H1 : Hid (Good n (zs.take (k + 1))) := h1
            have HP : Hid (RefB (wr.setCell ⟨w.heap.size, s, none⟩ (.bool true)) (w.heap.size + 1) w.heap.size n (takenB (zs.take (k + 1)))) := by rw [h2]; exact hR.out.put hsn true
            have HO : Hid (Below w.heap.size w (wr.setCell ⟨w.heap.size, s, none⟩ (.bool true))) := belowOut hBe.out (Nat.le_refl _) s _
            clear h1 h2 HSTOP HSTEP hB hbig hneg
            go_wp2
            go_roundw
            case rel => exact ⟨k + 1, by go_num, by omega, H1, HP, HO⟩
            case measure => simp [intOf]; omega
          · rw [hB] at hb
            have HN : Hid (¬ Good n zs) := HSTOP.out (.inr (.inr ⟨s, rfl, hB⟩))
            clear HSTOP HSTEP hB hbig hneg
            go_wp2
            go_ret
            exact ⟨hBe.out, .inr ⟨HN.out, rfl⟩⟩
    · obtain rfl : k = L := by omega
      have HZ : Hid (zs.take k = zs) := List.take_of_length_le (by have := HL.out; omega)
      have HE : Hid (Good n zs) := by
        have := hG.out
        rwa [HZ.out] at this
      have HE2 : Hid (RefB wr (w.heap.size + 1) w.heap.size n (takenB zs)) := by
        have := hR.out
        rwa [HZ.out] at this
      go_wp2
      go_ret
      exact ⟨hBe.out, .inl ⟨HE.out, _, _, rfl, ⟨Nat.le_succ _, Nat.le_refl _⟩, HE2.out⟩⟩
theorem refNew9_any (w : World) (n : Nat) (v : Value) (zs : List Int) (hn1 : 1 ≤ n) (hn : n ≤ 65536) (hv : Nums w v zs) :
    Calls Tryz.prog 31 #[.int .i64 (n : Nat), v] w fun x w' => NewR w n zs x w' :=
  (refNew9_new w n v zs hn1 hn hv).mono fun _ _ h => h.weak

/-! ### Clusters -/
theorem fr_part {B : Nat → Bool} {n c m : Nat} (ht : ∀ i, n ≤ i → B i = false) (hm : m = min 64 (n - 64 * c)) : m - cnt B (64 * c) m = fr B n c := by
  unfold fr
  rw [← hm]
  have e : (64 : Nat) = m + (64 - m) := by omega
  rw [show cnt B (64 * c) 64 = cnt B (64 * c) (m + (64 - m)) by rw [← e], cnt_add, cnt_none (k := 64 - m) fun i hi => ht _ (by omega)]
  omega
theorem frL_snoc (B : Nat → Bool) (n c : Nat) : frL B n c ++ [(fr B n c : Int)] = frL B n (c + 1) := by
  unfold frL
  rw [List.range_succ, List.map_append, List.map_singleton]
set_option maxRecDepth 20000 in
set_option maxHeartbeats 2000000 in
theorem refClusters_any (w : World) (p b n : Nat) (B : Nat → Bool) (h : RefB w p b n B) (hn : n ≤ 65536) (ht : ∀ i, n ≤ i → B i = false) :
    Calls Tryz.prog 62 #[.pointer (some ⟨p, 0, none⟩)] w fun e w' => ∃ u, e = .returned u ∧ w'.ownsRow w.heap.size 3 1 u (wn n) (nums (frL B n (wn n))) ∧ Below w.heap.size w w' := by
  obtain ⟨i0, hi, hz0, hz1, hz2⟩ := info_parts Tryz.infoI64
  have H : Hid (RefB w p b n B) := h
  have HT : Hid (∀ i, n ≤ i → B i = false) := ht
  have hwn := wn_le n hn
  clear h ht
  go_enter Tryz.func62, Tryz.ntmps62
  go_wp2
  go_loopw [3, 4] (fun v at' wr => ∃ c a : Nat, a = 64 * c ∧ at' = .int .i64 (a : Nat) ∧ c ≤ wn n ∧ Hid (wr.ownsRow w.heap.size 3 1 v c (nums (frL B n c))) ∧ Hid (Below w.heap.size w wr)) (fun _ at' _ => 65600 - (intOf at').toNat)
  case atStart => exact ⟨0, 0, rfl, rfl, Nat.zero_le _, World.ownsRow_nil _ _ _ _, Below.refl _ _⟩
  case round =>
    obtain ⟨c, a, ha, rfl, hc, hOw, hBe⟩ := hrel
    have HSZ : Hid (w.heap.size ≤ wr.heap.size) := hBe.out.size
    have HR : Hid (RefB wr p b n B) := H.out.below hBe.out
    have hsl := HR.out.s_cell
    have HA : Hid (a = 64 * c) := ha
    by_cases hlt : a < n
    · have hcl : c < wn n := by unfold wn; omega
      have HC : Hid (∀ i, i < n → World.cell? wr ⟨b, i, none⟩ = some (.bool (B i))) := fun i hi => HR.out.b_cell i hi
      obtain ⟨m, hm⟩ : ∃ m, m = min 64 (n - a) := ⟨_, rfl⟩
      have hm2 : (a + m ≤ n ∧ m ≤ 64) ∧ (m = 64 ∨ a + m = n) := by omega
      have HMM : Hid (m = min 64 (n - 64 * c)) := by unfold Hid; rw [hm, ha]
      clear hm ha
      go_wp2
      go_loop [5, 6] (fun x i => ∃ j y : Nat, i = .int .i64 ((a + j : Nat) : Int) ∧ j ≤ m ∧ x = .int .i64 (y : Nat) ∧ y ≤ j ∧ Hid (y = j - cnt B a j)) (fun _ i => a + m - (intOf i).toNat)
      case atStart => exact ⟨0, 0, by go_num, Nat.zero_le _, rfl, Nat.le_refl _, rfl⟩
      case round =>
        obtain ⟨j, y, rfl, hj, rfl, hy, HY⟩ := hrel
        by_cases hjm : j < m
        · have hcell := HC.out (a + j) (by omega)
          have HN : Hid (cnt B a (j + 1) = cnt B a j + (B (a + j)).toNat) := rfl
          have HL : Hid (cnt B a j ≤ j) := cnt_le B a j
          have hx1 : a + j < a + 64 := by omega
          have hx2 : a + j < n := by omega
          have hxb : a + j < 65536 := by omega
          have HX : Hid (∀ x, a + j = x → ((x : Nat) : Int) + 1 = ((a + (j + 1) : Nat) : Int)) := fun x hx => by omega
          generalize hx : a + j = x at *
          cases hB : B x
          · rw [hB] at hcell HN
            go_wp2
            go_round
            case rel => exact ⟨j + 1, y + 1, by (rw [← HX.out _ rfl]) <;> go_num, by omega, by go_num, by omega, by unfold Hid; have h1 := HN.out; have h2 := HY.out; have h3 := HL.out; simp at h1; omega⟩
            case measure => simp [intOf]; omega
          · rw [hB] at hcell HN
            go_wp2
            go_round
            case rel => exact ⟨j + 1, y, by (rw [← HX.out _ rfl]) <;> go_num, by omega, rfl, by omega, by unfold Hid; have h1 := HN.out; have h2 := HY.out; have h3 := HL.out; simp at h1; omega⟩
            case measure => simp [intOf]; omega
        · obtain rfl : j = m := by omega
          have HF : Hid (frL B n c ++ [(y : Int)] = frL B n (c + 1)) := by
            unfold Hid
            rw [← frL_snoc, ← fr_part HT.out HMM.out, HY.out, HA.out]
          have HC1 : Hid (((a : Nat) : Int) + 64 = ((64 * (c + 1) : Nat) : Int)) := by have := HA.out; unfold Hid; omega
          have hcmp : (((a + j : Nat) : Int) < (a : Nat) + 64 ∧ ((a + j : Nat) : Int) < (n : Nat)) = False := eq_false (by omega)
          have hy64 : y ≤ 64 := by omega
          by_cases hm6 : j = 64
          · subst hm6
            go_wp2_with (at_builtin; (refine wpList_append_nums _ rfl _ _ 63 rfl w.heap.size 3 i0 Tryz.underlying63 hi hz0 hz1 hz2 u3 c (frL B n c) rfl (hOw.out.alloc _) _ [(y : Int)] rfl (Nums.one ⟨by omega, by omega⟩) ?d1 ?d2 ?_; (case d1 => simp; omega); (case d2 => simp; exact Nat.le_succ_of_le HSZ.out); intro v7 w7 hown7 hg7 _; rw [HF.out] at hown7; have HO7 : Hid (w7.ownsRow w.heap.size 3 1 v7 (c + 1) (nums (frL B n (c + 1)))) := hown7; have HB7 : Hid (Below w.heap.size w w7) := grewAny (hBe.out.alloc HSZ.out _) (hOw.out.alloc _) hg7 (by simp; exact Nat.le_succ_of_le HSZ.out); clear hown7 hg7))
            go_roundw
            case rel => exact ⟨c + 1, 64 * (c + 1), rfl, by (rw [← HC1.out]) <;> go_num, by omega, HO7, HB7⟩
            case measure => simp [intOf]; omega
          · have hmn2 : ((a : Nat) : Int) + (j : Nat) = (n : Nat) := by omega
            have hj64 : j < 64 := by omega
            go_wp2_with (at_builtin; (refine wpList_append_nums _ rfl _ _ 63 rfl w.heap.size 3 i0 Tryz.underlying63 hi hz0 hz1 hz2 u3 c (frL B n c) rfl (hOw.out.alloc _) _ [(y : Int)] rfl (Nums.one ⟨by omega, by omega⟩) ?d1 ?d2 ?_; (case d1 => simp; omega); (case d2 => simp; exact Nat.le_succ_of_le HSZ.out); intro v7 w7 hown7 hg7 _; rw [HF.out] at hown7; have HO7 : Hid (w7.ownsRow w.heap.size 3 1 v7 (c + 1) (nums (frL B n (c + 1)))) := hown7; have HB7 : Hid (Below w.heap.size w w7) := grewAny (hBe.out.alloc HSZ.out _) (hOw.out.alloc _) hg7 (by simp; exact Nat.le_succ_of_le HSZ.out); clear hown7 hg7))
            go_roundw
            case rel => exact ⟨c + 1, 64 * (c + 1), rfl, by (rw [← HC1.out]) <;> go_num, by omega, HO7, HB7⟩
            case measure => simp [intOf]; omega
    · obtain rfl : c = wn n := by unfold wn at hc ⊢; omega
      go_wp2
      go_ret
      exact ⟨_, rfl, hOw.out, hBe.out⟩
end Go.Proofs.YtjhkcdnfnmglhaaGreatDoor

/- The document's 'Take' and 'Run'. -/
namespace Go.Proofs.YtjhkcdnfnmglhaaGreatDoor
open Go.RowKit
set_option linter.unusedVariables false
set_option maxRecDepth 20000

set_option maxRecDepth 20000 in
set_option maxHeartbeats 2000000 in
theorem refTake_any (w : World) (p b n : Nat) (B : Nat → Bool) (h : RefB w p b n B) (hn : n ≤ 65536) (ht : ∀ i, n ≤ i → B i = false) :
    Calls Tryz.prog 37 #[.pointer (some ⟨p, 0, none⟩)] w fun x w' => (∃ s : Nat, x = .returned (.tuple #[.int .i64 (s : Nat), .int .i64 0]) ∧ IsTake B n s ∧ RefB w' p b n (putB B s 1 true) ∧ Only b w w') ∨ (x = .returned (.tuple #[.int .i64 0, .int .i64 12]) ∧ (∀ i, i < n → B i = true) ∧ RefB w' p b n B ∧ Only b w w') := by
  have H : Hid (RefB w p b n B) := h
  have HT : Hid (∀ i, n ≤ i → B i = false) := ht
  have HC : Hid (Calls Tryz.prog 62 #[.pointer (some ⟨p, 0, none⟩)] w fun e w' => ∃ u, e = .returned u ∧ w'.ownsRow w.heap.size 3 1 u (wn n) (nums (frL B n (wn n))) ∧ Below w.heap.size w w') := refClusters_any w p b n B h hn ht
  have hwn := wn_le n hn
  clear h ht
  go_enter Tryz.func37, Tryz.ntmps37
  go_wp2_with fail
  refine HC.out.mono ?_
  rintro e w1 ⟨u, rfl, hOw, hBe⟩
  have HR : Hid (RefB w1 p b n B) := H.out.below hBe
  have HO1 : Hid (Only b w w1) := Only.ofBelow hBe
  have HL0 : Hid (Nums w1 u (frL B n (wn n))) := Nums.ofOwn hOw (frL_small _ _ _)
  obtain ⟨a, cap, hsh⟩ := HL0.out.shape
  rw [frL_length] at hsh
  subst hsh
  have HCELL : Hid (∀ c, c < wn n → ∃ g off, a = some ⟨g, off, none⟩ ∧ World.cell? w1 ⟨g, off + c, none⟩ = some (.int .i64 (fr B n c : Nat))) := fun c hc => by
    obtain ⟨g, off, rfl, -, h2⟩ := HL0.out.addr (by omega)
    exact ⟨g, off, rfl, by rw [h2 c hc, frL_at hc]⟩
  clear hOw hBe HL0 HC
  obtain ⟨m, hm⟩ : ∃ m, m = wn n := ⟨_, rfl⟩
  rw [← hm] at hwn HCELL ⊢
  have HM : Hid (m = wn n) := hm
  clear hm
  go_wp2_with fail
  go_loop [5] (fun f => ∃ fw : Nat, f = .int .i64 (fw : Nat) ∧ 1 ≤ fw ∧ fw ≤ 65 ∧ Hid (∀ d, d < m → fr B n d = 0 ∨ fw ≤ fr B n d)) (fun f => 65 - (intOf f).toNat)
  case atStart => exact ⟨1, rfl, Nat.le_refl _, by omega, fun d hd => by omega⟩
  case round =>
    obtain ⟨fw, rfl, hf1, hf2, HF⟩ := hrel
    by_cases hf64 : fw ≤ 64
    · go_wp2_with fail
      go_loop [6] (fun c => ∃ k : Nat, c = .int .i64 (k : Nat) ∧ k ≤ m ∧ Hid (∀ d, d < k → fr B n d = 0 ∨ fw < fr B n d)) (fun c => m - (intOf c).toNat)
      case atStart => exact ⟨0, rfl, Nat.zero_le _, fun d hd => absurd hd (by omega)⟩
      case round =>
        obtain ⟨k, rfl, hk, HK⟩ := hrel
        by_cases hlt : k < m
        · obtain ⟨g, off, rfl, hcell⟩ := HCELL.out k hlt
          have hle := fr_le B n k
          have HKN : Hid (fr B n k ≠ fw → ∀ d, d < k + 1 → fr B n d = 0 ∨ fw < fr B n d) := fun h d hd => by
            by_cases e : d = k
            · rw [e] at *
              rcases HF.out k hlt with h1 | h1
              · exact .inl h1
              · exact .inr (by omega)
            · exact HK.out d (by omega)
          by_cases he : fr B n k = fw
          · have hpos : 0 < fr B n k := by omega
            obtain ⟨s, hs1, hs2, hs3, hs4, hs5⟩ := fr_first hpos
            have hsk : s / 64 = k := by omega
            have HI : Hid (IsTake B n s) := ⟨hs3, hs4, by rw [hsk]; exact hs5, by rw [hsk, he, ← HM.out]; intro d hd h0; rcases HF.out d hd with h1 | h1 <;> omega, by rw [hsk, he]; intro d hd h0; rcases HK.out d hd with h1 | h1 <;> omega⟩
            have HS : Hid (∀ i, 64 * k ≤ i → i < s → B i = true) := hs5
            have HS2 : Hid (B s = false) := hs4
            have hsl := HR.out.s_cell
            have HBC : Hid (∀ i, i < n → World.cell? w1 ⟨b, i, none⟩ = some (.bool (B i))) := fun i hi => HR.out.b_cell i hi
            have hbf := HR.out.b_free s
            have HP : Hid (RefB (w1.setCell ⟨b, s, none⟩ (.bool true)) p b n (putB B s 1 true)) := HR.out.put hs3 true
            have HO2 : Hid (Only b w (w1.setCell ⟨b, s, none⟩ (.bool true))) := HO1.out.setCell s _
            rw [he] at hcell
            clear hs4 hs5 hsk hpos HKN he hle
            go_wp2_with fail
            go_loop [7] (fun x => ∃ i : Nat, x = .int .i64 (i : Nat) ∧ 64 * k ≤ i ∧ i ≤ s) (fun x => s - (intOf x).toNat)
            case atStart => exact ⟨64 * k, by go_num, Nat.le_refl _, hs1⟩
            case round =>
              obtain ⟨i, rfl, hi1, hi2⟩ := hrel
              have hin : i < n := by omega
              have hbc := HBC.out i hin
              by_cases hilt : i < s
              · rw [HS.out i hi1 hilt] at hbc
                go_wp2
                go_round
                case rel => exact ⟨i + 1, by go_num, by omega, by omega⟩
                case measure => simp [intOf]; omega
              · obtain rfl : i = s := by omega
                rw [HS2.out] at hbc
                go_wp2
                go_ret2
                exact .inl ⟨i, rfl, HI.out, HP.out, HO2.out⟩
          · have HK2 := HKN.out he
            have HK3 : Hid (∀ d, d < k + 1 → fr B n d = 0 ∨ fw < fr B n d) := HK2
            have hne : (((fr B n k : Nat) : Int) != (fw : Nat)) = true := by simp; omega
            clear HK2 HKN he
            generalize fr B n k = y at *
            go_wp2
            go_round
            case rel => exact ⟨k + 1, by go_num, by omega, HK3⟩
            case measure => simp [intOf]; omega
        · obtain rfl : k = m := by omega
          have HF2 : Hid (∀ d, d < k → fr B n d = 0 ∨ fw + 1 ≤ fr B n d) := fun d hd => by rcases HK.out d hd with h1 | h1 <;> omega
          go_wp2
          go_round
          case rel => exact ⟨fw + 1, by go_num, by omega, by omega, HF2⟩
          case measure => simp [intOf]; omega
    · have HE : Hid (∀ i, i < n → B i = true) := fr_full HT.out fun c hc => by
        have h1 := HF.out c (by rw [HM.out]; exact hc)
        have h2 := fr_le B n c
        omega
      go_wp2
      go_ret2
      exact .inr ⟨rfl, HE.out, HR.out, HO1.out⟩

/-! ### Run -/
end Go.Proofs.YtjhkcdnfnmglhaaGreatDoor

/- The document's overlay: the object in memory; put, one, retire, Get. -/
namespace Go.Proofs.YtjhkcdnfnmglhaaGreatDoor
open Go.RowKit
set_option linter.unusedVariables false
set_option maxRecDepth 20000

theorem KI_right {k : Ky} (h : isR k = true) : KI k := by
  have := isR_iff.1 h
  unfold KI I64
  omega
theorem new_kv (V : World) (u v : Value) (t : TypeId) : (V.alloc (.cells #[u, v] t)).cell? ⟨V.heap.size, 0, none⟩ = some u ∧ (V.alloc (.cells #[u, v] t)).cell? ⟨V.heap.size, 1, none⟩ = some v :=
  ⟨by simp, by simp⟩
set_option maxHeartbeats 1000000 in
theorem refput12_any (w : World) (v : Value) (l : List Md) (h p s g : Int) (u : Nat) (hv : Els encM 5 w v l) (hl : l.length ≤ 100) (hi : ∀ m ∈ l, MdI m) (hm : MdI ⟨h, p, s, g, u⟩) :
    Calls Tryz.prog 39 #[v, .agg #[.int .i64 h, .int .i64 p], .agg #[.int .i64 s, .int .i64 g, .int .u32 (u : Nat)]] w fun e w' => ∃ u', e = .returned u' ∧ Els encM 5 w' u' (putL l (h, p) (s, g, u)) ∧ Below w.heap.size w w' ∧ ∀ g, u'.ownBlock = some g → w.heap.size ≤ g ∧ g < w'.heap.size := by
  have HV : Hid (Els encM 5 w v l) := hv
  have HI : Hid (∀ m ∈ l, MdI m) := hi
  have HM : Hid (∀ m ∈ [(⟨h, p, s, g, u⟩ : Md)], MdI m) := fun m hm' => by rw [List.mem_singleton] at hm'; subst hm'; exact hm
  obtain ⟨W1, hW1⟩ : ∃ W1, W1 = w.alloc (.cells #[.int .i64 h, .int .i64 p] 32) := ⟨_, rfl⟩
  obtain ⟨k0, k1⟩ := new_kv w (.int .i64 h) (.int .i64 p) 32
  rw [← hW1] at k0 k1
  have hs1 : W1.heap.size = w.heap.size + 1 := by rw [hW1]; simp
  obtain ⟨W2, hW2⟩ : ∃ W2, W2 = W1.alloc (.cells #[.int .i64 s, .int .i64 g, .int .u32 (u : Nat)] 37) := ⟨_, rfl⟩
  obtain ⟨e0, e1, e2⟩ := new_three W1 (.int .i64 s) (.int .i64 g) (.int .u32 (u : Nat)) 37
  rw [← hW2] at e0 e1 e2
  have hb2 : Below W1.heap.size W1 W2 := by rw [hW2]; exact (Below.refl _ _).alloc (Nat.le_refl _) _
  have k0' := (hb2.cell (p := ⟨w.heap.size, 0, none⟩) (by rw [hs1]; exact Nat.lt_succ_self _)).trans k0
  have k1' := (hb2.cell (p := ⟨w.heap.size, 1, none⟩) (by rw [hs1]; exact Nat.lt_succ_self _)).trans k1
  have hs2 : W2.heap.size = w.heap.size + 2 := by rw [hW2]; simp [hs1]
  have HB2 : Hid (Below w.heap.size w W2) := by
    have : Below w.heap.size w W1 := by rw [hW1]; exact (Below.refl _ _).alloc (Nat.le_refl _) _
    exact this.trans (hb2.mono (by omega))
  rw [hs1] at e0 e1 e2
  have HB3 : Hid (Below w.heap.size w (W2.alloc (.cells #[.int .i64 h, .int .i64 p, .int .i64 s, .int .i64 g, .int .u32 (u : Nat)] 56))) := HB2.out.alloc HB2.out.size _
  have HE3 : Hid (Els encM 5 (W2.alloc (.cells #[.int .i64 h, .int .i64 p, .int .i64 s, .int .i64 g, .int .u32 (u : Nat)] 56)) (.slice (some ⟨w.heap.size + 2, 0, none⟩) 1 1) [⟨h, p, s, g, u⟩]) := els_one11 (w := W2) (x := ⟨h, p, s, g, u⟩) hs2
  have HCA : Hid (Calls Tryz.prog 19 #[v, .slice (some ⟨w.heap.size + 2, 0, none⟩) 1 1, .slice none 0 0] (W2.alloc (.cells #[.int .i64 h, .int .i64 p, .int .i64 s, .int .i64 g, .int .u32 (u : Nat)] 56)) fun e w' => ∃ u', e = .returned u' ∧ Els encM 5 w' u' (putL l (h, p) (s, g, u)) ∧ Below w.heap.size w w' ∧ ∀ g, u'.ownBlock = some g → w.heap.size ≤ g ∧ g < w'.heap.size) := by
    refine (refApply11_new _ _ _ _ l [⟨h, p, s, g, u⟩] [] (HV.out.kept HB3.out) HE3.out (Keys.nil _) hl (by simp) HI.out HM.out).mono ?_
    rintro e w' ⟨u', he, hu, hb, hn⟩
    exact ⟨u', he, hu, HB3.out.trans (hb.mono HB3.out.size), fun g hg => ⟨Nat.le_trans HB3.out.size (hn g hg).1, (hn g hg).2⟩⟩
  subst hW2 hW1
  clear hv hi hm hb2 k0 k1 hs1 hs2 HB2 HB3 HE3 HV HI HM
  go_enter Tryz.func39, Tryz.ntmps39
  go_wp2_with fail
  refine HCA.out.mono ?_
  rintro e w5 ⟨u', rfl, hu, hb, hn⟩
  have HU : Hid (Els encM 5 w5 u' (putL l (h, p) (s, g, u)) ∧ Below w.heap.size w w5 ∧ ∀ g, u'.ownBlock = some g → w.heap.size ≤ g ∧ g < w5.heap.size) := ⟨hu, hb, hn⟩
  clear hu hb hn HCA
  go_wp2
  go_ret
  exact ⟨_, rfl, HU.out⟩

/-! ### The object -/
/-- The block of a list that isn't empty. -/
def OwnsL (l : List Md) (v : Value) (g : Nat) : Prop := l ≠ [] ∧ v.ownBlock = some g
theorem Els.sparedN {w w' : World} {v : Value} {xs : List Md} (h : Els encM 5 w v xs) (hs : w.heap.size ≤ w'.heap.size) (hg : ∀ g, OwnsL xs v g → g < w.heap.size → w'.heap[g]? = w.heap[g]?) : Els encM 5 w' v xs := by
  by_cases h0 : xs = []
  · subst h0
    obtain ⟨h2, a, cap, rfl, h3, h4, h5⟩ := h
    refine ⟨h2, a, cap, rfl, h3, h4, ?_⟩
    rcases h5 with h5 | ⟨x, rfl, h5⟩
    · exact .inl h5
    · exact .inr ⟨x, rfl, .inl rfl⟩
  · exact h.spared hs fun g hg' hl => hg g ⟨h0, hg'⟩ hl
structure R12 (w : World) (R : Nat → Prop) (p pb b : Nat) (vB vW vF : Value) (O : Ov) : Prop where
  head : w.heap[p]? = some (.cells #[.pointer (some ⟨pb, 0, none⟩), vB, vW, vF] 51 (0, 0))
  board : RefB w pb b O.n O.B
  base : Els encM 5 w vB O.base
  was : Els encM 5 w vW O.was
  fresh : Els encM 5 w vF O.fresh
  inP : R p ∧ R pb ∧ R b
  own : ∀ g, (OwnsL O.base vB g ∨ OwnsL O.was vW g ∨ OwnsL O.fresh vF g) → R g ∧ g ≠ p ∧ g ≠ b
  lt : ∀ g, R g → g < w.heap.size
theorem R12.kept {w w' : World} {R : Nat → Prop} {p pb b : Nat} {vB vW vF : Value} {O : Ov} (h : R12 w R p pb b vB vW vF O) (hs : w.heap.size ≤ w'.heap.size) (hk : ∀ g, R g → w'.heap[g]? = w.heap[g]?) : R12 w' R p pb b vB vW vF O where
  head := (hk p h.inP.1).trans h.head
  board := ⟨(hk pb h.inP.2.1).trans h.board.head, (hk b h.inP.2.2).trans h.board.body⟩
  base := h.base.sparedN hs fun g hg _ => hk g (h.own g (.inl hg)).1
  was := h.was.sparedN hs fun g hg _ => hk g (h.own g (.inr (.inl hg))).1
  fresh := h.fresh.sparedN hs fun g hg _ => hk g (h.own g (.inr (.inr hg))).1
  inP := h.inP
  own := h.own
  lt := fun g hg => Nat.lt_of_lt_of_le (h.lt g hg) hs
theorem R12.below {w w' : World} {R : Nat → Prop} {p pb b : Nat} {vB vW vF : Value} {O : Ov} (h : R12 w R p pb b vB vW vF O) (hb : Below w.heap.size w w') : R12 w' R p pb b vB vW vF O := h.kept hb.size fun g hg => hb.block g (h.lt g hg)
theorem R12.cells {w : World} {R : Nat → Prop} {p pb b : Nat} {vB vW vF : Value} {O : Ov} (h : R12 w R p pb b vB vW vF O) : w.cell? ⟨p, 0, none⟩ = some (.pointer (some ⟨pb, 0, none⟩)) ∧ w.cell? ⟨p, 1, none⟩ = some vB ∧ w.cell? ⟨p, 2, none⟩ = some vW ∧ w.cell? ⟨p, 3, none⟩ = some vF := by
  refine ⟨?_, ?_, ?_, ?_⟩ <;> rw [cell_of_row _ _ _ _ _ _ h.head] <;> rfl
theorem R12.frozen {w : World} {R : Nat → Prop} {p pb b : Nat} {vB vW vF : Value} {O : Ov} (h : R12 w R p pb b vB vW vF O) (i : Nat) : w.frozen? ⟨p, i, none⟩ = false := by
  simp [World.frozen?, h.head]
theorem R12.ne {w : World} {R : Nat → Prop} {p pb b : Nat} {vB vW vF : Value} {O : Ov} (h : R12 w R p pb b vB vW vF O) : p ≠ b ∧ p ≠ pb := by
  constructor <;> intro e <;> subst e
  · have := h.head
    rw [h.board.body] at this
    simp at this
  · have := h.head
    rw [h.board.head] at this
    simp at this
/-- Blocks that came since. -/
def More (R R' : Nat → Prop) (w : World) : Prop := ∀ g, R' g → R g ∨ w.heap.size ≤ g
theorem More.refl (R : Nat → Prop) (w : World) : More R R w := fun _ h => .inl h
theorem More.trans {R R1 R2 : Nat → Prop} {w w1 : World} (h : More R R1 w) (k : More R1 R2 w1) (hs : w.heap.size ≤ w1.heap.size) : More R R2 w := fun g hg => (k g hg).elim (h g) fun h' => .inr (Nat.le_trans hs h')
/-- Another list laid into the field of fresh. -/
theorem R12.setFresh {w : World} {R : Nat → Prop} {p pb b : Nat} {vB vW vF v : Value} {O : Ov} {l : List Md} (h : R12 w R p pb b vB vW vF O) (hv : Els encM 5 w v l) (hn : ∀ g, v.ownBlock = some g → ¬ R g ∧ g < w.heap.size) :
    R12 (w.setCell ⟨p, 3, none⟩ v) (fun g => R g ∨ v.ownBlock = some g) p pb b vB vW v { O with fresh := l } where
  head := (heap_set_row h.head 3 v).trans rfl
  board := ⟨(Below.heap_setCell w ⟨p, 3, none⟩ v pb (fun e => h.ne.2 e.symm)).trans h.board.head, (Below.heap_setCell w ⟨p, 3, none⟩ v b (fun e => h.ne.1 e.symm)).trans h.board.body⟩
  base := h.base.sparedN (by simp) fun g hg _ => Below.heap_setCell w ⟨p, 3, none⟩ v g (h.own g (.inl hg)).2.1
  was := h.was.sparedN (by simp) fun g hg _ => Below.heap_setCell w ⟨p, 3, none⟩ v g (h.own g (.inr (.inl hg))).2.1
  fresh := hv.spared (by simp) fun g hg _ => Below.heap_setCell w ⟨p, 3, none⟩ v g (fun e => (hn g hg).1 (by rw [e]; exact h.inP.1))
  inP := ⟨.inl h.inP.1, .inl h.inP.2.1, .inl h.inP.2.2⟩
  own := fun g hg => by
    rcases hg with hg | hg | hg
    · have := h.own g (.inl hg); exact ⟨.inl this.1, this.2⟩
    · have := h.own g (.inr (.inl hg)); exact ⟨.inl this.1, this.2⟩
    · exact ⟨.inr hg.2, fun e => (hn g hg.2).1 (by rw [e]; exact h.inP.1), fun e => (hn g hg.2).1 (by rw [e]; exact h.inP.2.2)⟩
  lt := fun g hg => by
    simp only [World.size_setCell]
    exact hg.elim (h.lt g) fun e => (hn g e).2
theorem R12.setWas {w : World} {R : Nat → Prop} {p pb b : Nat} {vB vW vF v : Value} {O : Ov} {l : List Md} (h : R12 w R p pb b vB vW vF O) (hv : Els encM 5 w v l) (hn : ∀ g, v.ownBlock = some g → ¬ R g ∧ g < w.heap.size) :
    R12 (w.setCell ⟨p, 2, none⟩ v) (fun g => R g ∨ v.ownBlock = some g) p pb b vB v vF { O with was := l } where
  head := (heap_set_row h.head 2 v).trans rfl
  board := ⟨(Below.heap_setCell w ⟨p, 2, none⟩ v pb (fun e => h.ne.2 e.symm)).trans h.board.head, (Below.heap_setCell w ⟨p, 2, none⟩ v b (fun e => h.ne.1 e.symm)).trans h.board.body⟩
  base := h.base.sparedN (by simp) fun g hg _ => Below.heap_setCell w ⟨p, 2, none⟩ v g (h.own g (.inl hg)).2.1
  was := hv.spared (by simp) fun g hg _ => Below.heap_setCell w ⟨p, 2, none⟩ v g (fun e => (hn g hg).1 (by rw [e]; exact h.inP.1))
  fresh := h.fresh.sparedN (by simp) fun g hg _ => Below.heap_setCell w ⟨p, 2, none⟩ v g (h.own g (.inr (.inr hg))).2.1
  inP := ⟨.inl h.inP.1, .inl h.inP.2.1, .inl h.inP.2.2⟩
  own := fun g hg => by
    rcases hg with hg | hg | hg
    · have := h.own g (.inl hg); exact ⟨.inl this.1, this.2⟩
    · exact ⟨.inr hg.2, fun e => (hn g hg.2).1 (by rw [e]; exact h.inP.1), fun e => (hn g hg.2).1 (by rw [e]; exact h.inP.2.2)⟩
    · have := h.own g (.inr (.inr hg)); exact ⟨.inl this.1, this.2⟩
  lt := fun g hg => by
    simp only [World.size_setCell]
    exact hg.elim (h.lt g) fun e => (hn g e).2
theorem R12.setBase {w : World} {R : Nat → Prop} {p pb b : Nat} {vB vW vF v : Value} {O : Ov} {l : List Md} (h : R12 w R p pb b vB vW vF O) (hv : Els encM 5 w v l) (hn : ∀ g, v.ownBlock = some g → ¬ R g ∧ g < w.heap.size) :
    R12 (w.setCell ⟨p, 1, none⟩ v) (fun g => R g ∨ v.ownBlock = some g) p pb b v vW vF { O with base := l } where
  head := (heap_set_row h.head 1 v).trans rfl
  board := ⟨(Below.heap_setCell w ⟨p, 1, none⟩ v pb (fun e => h.ne.2 e.symm)).trans h.board.head, (Below.heap_setCell w ⟨p, 1, none⟩ v b (fun e => h.ne.1 e.symm)).trans h.board.body⟩
  base := hv.spared (by simp) fun g hg _ => Below.heap_setCell w ⟨p, 1, none⟩ v g (fun e => (hn g hg).1 (by rw [e]; exact h.inP.1))
  was := h.was.sparedN (by simp) fun g hg _ => Below.heap_setCell w ⟨p, 1, none⟩ v g (h.own g (.inr (.inl hg))).2.1
  fresh := h.fresh.sparedN (by simp) fun g hg _ => Below.heap_setCell w ⟨p, 1, none⟩ v g (h.own g (.inr (.inr hg))).2.1
  inP := ⟨.inl h.inP.1, .inl h.inP.2.1, .inl h.inP.2.2⟩
  own := fun g hg => by
    rcases hg with hg | hg | hg
    · exact ⟨.inr hg.2, fun e => (hn g hg.2).1 (by rw [e]; exact h.inP.1), fun e => (hn g hg.2).1 (by rw [e]; exact h.inP.2.2)⟩
    · have := h.own g (.inr (.inl hg)); exact ⟨.inl this.1, this.2⟩
    · have := h.own g (.inr (.inr hg)); exact ⟨.inl this.1, this.2⟩
  lt := fun g hg => by
    simp only [World.size_setCell]
    exact hg.elim (h.lt g) fun e => (hn g e).2
theorem mdi_part {O : Ov} {t : Int} (h : OvOk O t) (ht : t ≤ 1000000000000000) {c : Nat} (hc : c < 3) (hr : Rise (O.part c)) : ∀ m ∈ O.part c, MdI m := by
  intro m hm
  have h0 : O.Has c m.k (m.s, m.g, m.u) := ⟨hc, mem_find hr.nodup hm⟩
  have h1 := h.fit _ _ _ h0
  obtain ⟨s, h2, h3⟩ := h.range _ _ _ h0
  have h4 := KI_right h1.1
  have h5 := h.n2
  simp only at h1 h2
  refine ⟨h4.1, h4.2, ?_, ?_, h1.2.2.2⟩ <;> unfold I64 <;> omega
theorem OvOk.mdB {O : Ov} {t : Int} (h : OvOk O t) (ht : t ≤ 1000000000000000) : ∀ m ∈ O.base, MdI m := mdi_part h ht (c := 0) (by decide) h.rb
theorem OvOk.mdW {O : Ov} {t : Int} (h : OvOk O t) (ht : t ≤ 1000000000000000) : ∀ m ∈ O.was, MdI m := mdi_part h ht (c := 1) (by decide) h.rw
theorem OvOk.mdF {O : Ov} {t : Int} (h : OvOk O t) (ht : t ≤ 1000000000000000) : ∀ m ∈ O.fresh, MdI m := mdi_part h ht (c := 2) (by decide) h.rf
end Go.Proofs.YtjhkcdnfnmglhaaGreatDoor

/- The document's overlay: Get. -/
namespace Go.Proofs.YtjhkcdnfnmglhaaGreatDoor
open Go.RowKit
set_option linter.unusedVariables false
set_option maxRecDepth 20000

set_option maxHeartbeats 2000000 in
theorem refGet12_any (w : World) (R : Nat → Prop) (p pb b : Nat) (vB vW vF : Value) (O : Ov) (h q : Int) (hR : R12 w R p pb b vB vW vF O) :
    Calls Tryz.prog 17 #[.pointer (some ⟨p, 0, none⟩), .agg #[.int .i64 h, .int .i64 q]] w fun x w' => x = .returned (.tuple #[entV (getO12 O (h, q)), .bool (getO12 O (h, q)).isSome]) ∧ Below w.heap.size w w' := by
  have HR : Hid (R12 w R p pb b vB vW vF O) := hR
  obtain ⟨W1, hW1⟩ : ∃ W1, W1 = w.alloc (.cells #[.int .i64 h, .int .i64 q] 32) := ⟨_, rfl⟩
  obtain ⟨W2, hW2⟩ : ∃ W2, W2 = W1.alloc (.cells #[.int .i64 0, .int .i64 0, .int .u32 0] 37) := ⟨_, rfl⟩
  have hs1 : W1.heap.size = w.heap.size + 1 := by rw [hW1]; simp
  have hs2 : W2.heap.size = w.heap.size + 2 := by rw [hW2]; simp [hs1]
  have hb1 : Below w.heap.size w W1 := by rw [hW1]; exact (Below.refl _ _).alloc (Nat.le_refl _) _
  have hb2 : Below W1.heap.size W1 W2 := by rw [hW2]; exact (Below.refl _ _).alloc (Nat.le_refl _) _
  have HK : Hid (W2.heap[w.heap.size]? = some (.cells #[.int .i64 h, .int .i64 q] 32 (0, 0))) := (hb2.block w.heap.size (by omega)).trans (by rw [hW1]; exact heap_alloc_new w _)
  have HY : Hid (W2.heap[w.heap.size + 1]? = some (.cells #[.int .i64 0, .int .i64 0, .int .u32 0] 37 (0, 0))) := by
    have := heap_alloc_new W1 (.cells #[.int .i64 0, .int .i64 0, .int .u32 0] 37)
    rw [hs1] at this
    rw [hW2]; exact this
  have HB2 : Hid (Below w.heap.size w W2) := hb1.trans (hb2.mono (by omega))
  have HR2 : Hid (R12 W2 R p pb b vB vW vF O) := HR.out.below HB2.out
  have HSZ : Hid (W2.heap.size = w.heap.size + 2) := hs2
  have HCL : Hid (∀ W, Below W2.heap.size W2 W → W.cell? ⟨p, 3, none⟩ = some vF ∧ W.cell? ⟨p, 1, none⟩ = some vB ∧ W.cell? ⟨w.heap.size, 0, none⟩ = some (.int .i64 h) ∧ W.cell? ⟨w.heap.size, 1, none⟩ = some (.int .i64 q)) := fun W hb => by
    obtain ⟨_, c1, _, c3⟩ := (HR2.out.below hb).cells
    have hh := (hb.block w.heap.size (by rw [HSZ.out]; omega)).trans HK.out
    exact ⟨c3, c1, by rw [cell_of_row _ _ _ _ _ _ hh]; rfl, by rw [cell_of_row _ _ _ _ _ _ hh]; rfl⟩
  have HCY : Hid (∀ W, Below W2.heap.size W2 W → (W.cell? ⟨w.heap.size + 1, 0, none⟩ = some (.int .i64 0) ∧ W.cell? ⟨w.heap.size + 1, 1, none⟩ = some (.int .i64 0) ∧ W.cell? ⟨w.heap.size + 1, 2, none⟩ = some (.int .u32 0)) ∧ ∀ i, W.frozen? ⟨w.heap.size + 1, i, none⟩ = false) := fun W hb => cells3' ((hb.block (w.heap.size + 1) (by rw [HSZ.out]; omega)).trans HY.out)
  have HNP : Hid (p ≠ w.heap.size + 1) := by have := HR.out.lt p HR.out.inP.1; unfold Hid; omega
  have HSY : Hid (∀ W, Below W2.heap.size W2 W → ∀ (s g : Int) (u : Nat), (((W.setCell ⟨w.heap.size + 1, 0, none⟩ (.int .i64 s)).setCell ⟨w.heap.size + 1, 1, none⟩ (.int .i64 g)).setCell ⟨w.heap.size + 1, 2, none⟩ (.int .u32 (u : Nat))).cell? ⟨p, 3, none⟩ = some vF ∧ (((W.setCell ⟨w.heap.size + 1, 0, none⟩ (.int .i64 s)).setCell ⟨w.heap.size + 1, 1, none⟩ (.int .i64 g)).setCell ⟨w.heap.size + 1, 2, none⟩ (.int .u32 (u : Nat))).cell? ⟨p, 1, none⟩ = some vB ∧ (((W.setCell ⟨w.heap.size + 1, 0, none⟩ (.int .i64 s)).setCell ⟨w.heap.size + 1, 1, none⟩ (.int .i64 g)).setCell ⟨w.heap.size + 1, 2, none⟩ (.int .u32 (u : Nat))).cell? ⟨w.heap.size, 0, none⟩ = some (.int .i64 h) ∧ (((W.setCell ⟨w.heap.size + 1, 0, none⟩ (.int .i64 s)).setCell ⟨w.heap.size + 1, 1, none⟩ (.int .i64 g)).setCell ⟨w.heap.size + 1, 2, none⟩ (.int .u32 (u : Nat))).cell? ⟨w.heap.size, 1, none⟩ = some (.int .i64 q)) := fun W hb s g u => by
    obtain ⟨a1, a2, a3, a4⟩ := HCL.out W hb
    have hp := HNP.out
    have one : ∀ (W : World) (i : Nat) (v : Value) (b j : Nat), b ≠ w.heap.size + 1 → (W.setCell ⟨w.heap.size + 1, i, none⟩ v).cell? ⟨b, j, none⟩ = W.cell? ⟨b, j, none⟩ := fun W i v b j hne => World.cell?_setCell_other _ _ _ _ (fun e => hne (by cases e; rfl))
    have three : ∀ (b j : Nat), b ≠ w.heap.size + 1 → (((W.setCell ⟨w.heap.size + 1, 0, none⟩ (.int .i64 s)).setCell ⟨w.heap.size + 1, 1, none⟩ (.int .i64 g)).setCell ⟨w.heap.size + 1, 2, none⟩ (.int .u32 (u : Nat))).cell? ⟨b, j, none⟩ = W.cell? ⟨b, j, none⟩ := fun b j hne => ((one _ _ _ b j hne).trans (one _ _ _ b j hne)).trans (one _ _ _ b j hne)
    exact ⟨(three _ _ hp).trans a1, (three _ _ hp).trans a2, (three _ _ (by omega)).trans a3, (three _ _ (by omega)).trans a4⟩
  have HF : Hid (∀ W, Below W2.heap.size W2 W → Calls Tryz.prog 36 #[vF, .agg #[.int .i64 h, .int .i64 q]] W fun e w' => e = .returned (.tuple #[entV (findM O.fresh (h, q)), .bool (findM O.fresh (h, q)).isSome]) ∧ Below W.heap.size W w') := fun W hb => refFind11_any W _ _ h q (HR2.out.below hb).fresh
  have HG : Hid (∀ W, Below W2.heap.size W2 W → Calls Tryz.prog 36 #[vB, .agg #[.int .i64 h, .int .i64 q]] W fun e w' => e = .returned (.tuple #[entV (findM O.base (h, q)), .bool (findM O.base (h, q)).isSome]) ∧ Below W.heap.size W w') := fun W hb => refFind11_any W _ _ h q (HR2.out.below hb).base
  obtain ⟨aF, lF, cF, eF⟩ : ∃ a l c, vF = .slice a l c := by obtain ⟨a, c, e⟩ := hR.fresh.shape; exact ⟨a, _, c, e⟩
  obtain ⟨aB, lB, cB, eB⟩ : ∃ a l c, vB = .slice a l c := by obtain ⟨a, c, e⟩ := hR.base.shape; exact ⟨a, _, c, e⟩
  have HO : Hid (getO12 O (h, q) = (findM O.fresh (h, q)).or (findM O.base (h, q))) := rfl
  rw [HO.out]
  generalize findM O.fresh (h, q) = oF at *
  generalize findM O.base (h, q) = oB at *
  subst eF eB
  subst hW2 hW1
  clear hR hs1 hs2 hb1 hb2 HK HR HO HR2
  rcases oF with _ | ⟨s0, g0, u0⟩
  · have HF0 : Hid (∀ W, Below ((w.alloc (.cells #[.int .i64 h, .int .i64 q] 32)).alloc (.cells #[.int .i64 0, .int .i64 0, .int .u32 0] 37)).heap.size ((w.alloc (.cells #[.int .i64 h, .int .i64 q] 32)).alloc (.cells #[.int .i64 0, .int .i64 0, .int .u32 0] 37)) W → Calls Tryz.prog 36 #[.slice aF lF cF, .agg #[.int .i64 h, .int .i64 q]] W fun e w' => e = .returned (.tuple #[.agg #[.int .i64 0, .int .i64 0, .int .u32 0], .bool false]) ∧ Below W.heap.size W w') := HF
    obtain ⟨s0, g0, u0, he0⟩ : ∃ s0 g0 u0, entV oB = .agg #[.int .i64 s0, .int .i64 g0, .int .u32 (u0 : Nat)] := ⟨_, _, _, rfl⟩
    rw [show (none : Option Ent).or oB = oB from rfl]
    rw [he0] at HG ⊢
    generalize oB.isSome = okB at *
    clear HF he0
    go_enter Tryz.func17, Tryz.ntmps17
    go_wp2_with fail
    generalize (w.alloc (.cells #[.int .i64 h, .int .i64 q] 32)).alloc (.cells #[.int .i64 0, .int .i64 0, .int .u32 0] 37) = V at *
    go_region_held3 (fun w' => w'.cell? ⟨p, 3, none⟩ = some (.slice aF lF cF) ∧ w'.cell? ⟨p, 1, none⟩ = some (.slice aB lB cB) ∧ w'.cell? ⟨w.heap.size, 0, none⟩ = some (.int .i64 h) ∧ w'.cell? ⟨w.heap.size, 1, none⟩ = some (.int .i64 q)) (first | exact HCL.out _ ((Below.refl _ _).alloc (Nat.le_refl _) _).drew | exact HCL.out _ (Below.refl _ _).drew | exact HCL.out _ HB3.out | exact HCL.out _ (HB3.out.alloc HB3.out.size _) | exact HCL.out _ (((HB3.out.setCell (Nat.le_refl _) _).setCell (Nat.le_refl _) _).setCell (Nat.le_refl _) _)) (first
      | (go_at_call 36; refine (HF0.out _ ((Below.refl _ _).alloc (Nat.le_refl _) _).drew).mono ?_; rintro e w3 ⟨rfl, hb3⟩
         have hge : Below V.heap.size V (V.alloc (.cells #[.int .i64 0, .int .i64 0, .int .u32 0] 37)) := (Below.refl _ _).alloc (Nat.le_refl _) _
         have HB3 : Hid (Below V.heap.size V w3) := hge.trans ((below_undrew hb3).mono hge.size)
         have HZ3 : Hid (w3.heap[V.heap.size]? = some (.cells #[.int .i64 0, .int .i64 0, .int .u32 0] 37 (0, 0))) := (hb3.block V.heap.size (by simp)).trans (heap_alloc_new V _)
         obtain ⟨⟨z0, z1, z2⟩, zf⟩ := cells3' HZ3.out
         have f0 := zf 0
         have f1 := zf 1
         have f2 := zf 2
         clear hb3 hge zf)
      | (go_at_call 36; refine (HF0.out _ (Below.refl _ _).drew).mono ?_; rintro e w3 ⟨rfl, hb3⟩
         have HB3 : Hid (Below V.heap.size V w3) := below_undrew hb3
         clear hb3))
    all_goals first
      | (have HB4 : Hid (Below V.heap.size V (((w3.setCell ⟨V.heap.size, 0, none⟩ (.int .i64 0)).setCell ⟨V.heap.size, 1, none⟩ (.int .i64 0)).setCell ⟨V.heap.size, 2, none⟩ (.int .u32 0))) := ((HB3.out.setCell (Nat.le_refl _) _).setCell (Nat.le_refl _) _).setCell (Nat.le_refl _) _
         obtain ⟨x0, x1, x2⟩ := set_three (.int .i64 0) (.int .i64 0) (.int .u32 0) z0 z1 z2
         clear z0 z1 z2 f0 f1 f2 HZ3
         generalize hw4 : ((w3.setCell ⟨V.heap.size, 0, none⟩ (.int .i64 0)).setCell ⟨V.heap.size, 1, none⟩ (.int .i64 0)).setCell ⟨V.heap.size, 2, none⟩ (.int .u32 0) = w4 at *
         clear hw4)
      | (have HB4 : Hid (Below V.heap.size V (w3.alloc (.cells #[.int .i64 0, .int .i64 0, .int .u32 0] 37))) := HB3.out.alloc HB3.out.size _
         obtain ⟨x0, x1, x2⟩ := new_three w3 (.int .i64 0) (.int .i64 0) (.int .u32 0) 37
         have hZL : (w3.heap.size : Nat) = w3.heap.size := rfl
         generalize hw4 : w3.alloc (.cells #[.int .i64 0, .int .i64 0, .int .u32 0] 37) = w4 at *
         clear hw4 hZL)
    all_goals
      clear x0 x1 x2
      go_wp2_with fail
      go_region_held3 (fun w' => w'.cell? ⟨p, 3, none⟩ = some (.slice aF lF cF) ∧ w'.cell? ⟨p, 1, none⟩ = some (.slice aB lB cB) ∧ w'.cell? ⟨w.heap.size, 0, none⟩ = some (.int .i64 h) ∧ w'.cell? ⟨w.heap.size, 1, none⟩ = some (.int .i64 q)) (first | exact HCL.out _ HB4.out.drew | exact HCL.out _ HB5.out | exact HS5) (first
        | (go_at_call 36; refine (HG.out _ HB4.out.drew).mono ?_; rintro e w5 ⟨rfl, hb5⟩
           have HB5 : Hid (Below V.heap.size V w5) := HB4.out.trans ((below_undrew hb5).mono HB4.out.size)
           obtain ⟨⟨y0, y1, y2⟩, yf⟩ := HCY.out w5 HB5.out
           have f0 := yf 0
           have f1 := yf 1
           have f2 := yf 2
           have HS5 := HSY.out w5 HB5.out s0 g0 u0
           clear hb5 yf))
      go_wp2
      refine bodyPost_ret (v := .tuple #[.agg #[.int .i64 _, .int .i64 _, .int .u32 _], .bool _]) (results_cell2 rfl rfl rfl (load_ent (set_three _ _ _ y0 y1 y2).1 (set_three _ _ _ y0 y1 y2).2.1 (set_three _ _ _ y0 y1 y2).2.2)) rfl ⟨rfl, ?_⟩
      exact (((HB2.out.trans (HB5.out.mono HB2.out.size)).setCell (Nat.le_succ _) _).setCell (Nat.le_succ _) _).setCell (Nat.le_succ _) _
  · have HF0 : Hid (∀ W, Below ((w.alloc (.cells #[.int .i64 h, .int .i64 q] 32)).alloc (.cells #[.int .i64 0, .int .i64 0, .int .u32 0] 37)).heap.size ((w.alloc (.cells #[.int .i64 h, .int .i64 q] 32)).alloc (.cells #[.int .i64 0, .int .i64 0, .int .u32 0] 37)) W → Calls Tryz.prog 36 #[.slice aF lF cF, .agg #[.int .i64 h, .int .i64 q]] W fun e w' => e = .returned (.tuple #[.agg #[.int .i64 s0, .int .i64 g0, .int .u32 (u0 : Nat)], .bool true]) ∧ Below W.heap.size W w') := HF
    rw [show (some (s0, g0, u0) : Option Ent).or oB = some (s0, g0, u0) from rfl]
    clear HF HG
    go_enter Tryz.func17, Tryz.ntmps17
    go_wp2_with fail
    generalize (w.alloc (.cells #[.int .i64 h, .int .i64 q] 32)).alloc (.cells #[.int .i64 0, .int .i64 0, .int .u32 0] 37) = V at *
    go_region_held3 (fun w' => w'.cell? ⟨p, 3, none⟩ = some (.slice aF lF cF) ∧ w'.cell? ⟨p, 1, none⟩ = some (.slice aB lB cB) ∧ w'.cell? ⟨w.heap.size, 0, none⟩ = some (.int .i64 h) ∧ w'.cell? ⟨w.heap.size, 1, none⟩ = some (.int .i64 q)) (first | exact HCL.out _ ((Below.refl _ _).alloc (Nat.le_refl _) _).drew | exact HCL.out _ (Below.refl _ _).drew | exact HCL.out _ HB3.out | exact HCL.out _ (HB3.out.alloc HB3.out.size _) | exact HCL.out _ (((HB3.out.setCell (Nat.le_refl _) _).setCell (Nat.le_refl _) _).setCell (Nat.le_refl _) _)) (first
      | (go_at_call 36; refine (HF0.out _ ((Below.refl _ _).alloc (Nat.le_refl _) _).drew).mono ?_; rintro e w3 ⟨rfl, hb3⟩
         have hge : Below V.heap.size V (V.alloc (.cells #[.int .i64 0, .int .i64 0, .int .u32 0] 37)) := (Below.refl _ _).alloc (Nat.le_refl _) _
         have HB3 : Hid (Below V.heap.size V w3) := hge.trans ((below_undrew hb3).mono hge.size)
         have HZ3 : Hid (w3.heap[V.heap.size]? = some (.cells #[.int .i64 0, .int .i64 0, .int .u32 0] 37 (0, 0))) := (hb3.block V.heap.size (by simp)).trans (heap_alloc_new V _)
         obtain ⟨⟨z0, z1, z2⟩, zf⟩ := cells3' HZ3.out
         have f0 := zf 0
         have f1 := zf 1
         have f2 := zf 2
         clear hb3 hge zf)
      | (go_at_call 36; refine (HF0.out _ (Below.refl _ _).drew).mono ?_; rintro e w3 ⟨rfl, hb3⟩
         have HB3 : Hid (Below V.heap.size V w3) := below_undrew hb3
         clear hb3))
    all_goals first
      | (have HB4 : Hid (Below V.heap.size V (((w3.setCell ⟨V.heap.size, 0, none⟩ (.int .i64 s0)).setCell ⟨V.heap.size, 1, none⟩ (.int .i64 g0)).setCell ⟨V.heap.size, 2, none⟩ (.int .u32 (u0 : Nat)))) := ((HB3.out.setCell (Nat.le_refl _) _).setCell (Nat.le_refl _) _).setCell (Nat.le_refl _) _
         obtain ⟨x0, x1, x2⟩ := set_three (.int .i64 s0) (.int .i64 g0) (.int .u32 (u0 : Nat)) z0 z1 z2
         clear z0 z1 z2 f0 f1 f2 HZ3
         generalize hw4 : ((w3.setCell ⟨V.heap.size, 0, none⟩ (.int .i64 s0)).setCell ⟨V.heap.size, 1, none⟩ (.int .i64 g0)).setCell ⟨V.heap.size, 2, none⟩ (.int .u32 (u0 : Nat)) = w4 at *
         clear hw4)
      | (have HB4 : Hid (Below V.heap.size V (w3.alloc (.cells #[.int .i64 s0, .int .i64 g0, .int .u32 (u0 : Nat)] 37))) := HB3.out.alloc HB3.out.size _
         obtain ⟨x0, x1, x2⟩ := new_three w3 (.int .i64 s0) (.int .i64 g0) (.int .u32 (u0 : Nat)) 37
         have hZL : (w3.heap.size : Nat) = w3.heap.size := rfl
         generalize hw4 : w3.alloc (.cells #[.int .i64 s0, .int .i64 g0, .int .u32 (u0 : Nat)] 37) = w4 at *
         clear hw4 hZL)
    all_goals
      obtain ⟨⟨y0, y1, y2⟩, yf⟩ := HCY.out _ HB4.out
      have f3 := yf 0
      have f4 := yf 1
      have f5 := yf 2
      clear yf
      go_wp2
      refine bodyPost_ret (v := .tuple #[.agg #[.int .i64 _, .int .i64 _, .int .u32 _], .bool _]) (results_cell2 rfl rfl rfl (load_ent (set_three _ _ _ y0 y1 y2).1 (set_three _ _ _ y0 y1 y2).2.1 (set_three _ _ _ y0 y1 y2).2.2)) rfl ⟨rfl, ?_⟩
      exact (((HB2.out.trans (HB4.out.mono HB2.out.size)).setCell (Nat.le_succ _) _).setCell (Nat.le_succ _) _).setCell (Nat.le_succ _) _
end Go.Proofs.YtjhkcdnfnmglhaaGreatDoor

/- The document's overlay: one, retire. (Written by wip/mk_ref12b.py.) -/
namespace Go.Proofs.YtjhkcdnfnmglhaaGreatDoor
open Go.RowKit
set_option linter.unusedVariables false
set_option maxRecDepth 20000

theorem refone12_any (w : World) (h p : Int) (hk : KI (h, p)) :
    Calls Tryz.prog 42 #[.agg #[.int .i64 h, .int .i64 p]] w fun e w' => ∃ u, e = .returned u ∧ Keys w' u [(h, p)] ∧ Below w.heap.size w w' := by
  have HK : Hid (Keys ((w.alloc (.cells #[.int .i64 h, .int .i64 p] 32)).alloc (.cells #[.int .i64 h, .int .i64 p] 32)) (.slice (some ⟨w.heap.size + 1, 0, none⟩) 1 1) [(h, p)]) := keys_two _ hk _
  have HB : Hid (Below w.heap.size w ((w.alloc (.cells #[.int .i64 h, .int .i64 p] 32)).alloc (.cells #[.int .i64 h, .int .i64 p] 32))) := ((Below.refl _ _).alloc (Nat.le_refl _) _).alloc (by simp) _
  clear hk
  go_enter Tryz.func42, Tryz.ntmps42
  go_wp2
  go_ret
  exact ⟨_, rfl, HK.out, HB.out⟩

/-! ### retire -/
/-- What a call of the object leaves. -/
def Step12 (w w' : World) (R : Nat → Prop) (p pb b : Nat) (O' : Ov) : Prop := ∃ R' vB vW vF, R12 w' R' p pb b vB vW vF O' ∧ More R R' w ∧ Only2 p b w w'
theorem Step12.below {w w' : World} {R : Nat → Prop} {p pb b : Nat} {vB vW vF : Value} {O : Ov} (h : R12 w R p pb b vB vW vF O) (hb : Below w.heap.size w w') : Step12 w w' R p pb b O :=
  ⟨R, vB, vW, vF, h.below hb, More.refl _ _, Kept.ofBelow hb fun _ hk => hk.1⟩
theorem only2_set {p b i : Nat} {a w : World} (h : Only2 p b a w) (u : Value) : Only2 p b a (w.setCell ⟨p, i, none⟩ u) := Kept.setCell (K := fun k => k < a.heap.size ∧ k ≠ p ∧ k ≠ b) h (fun hk => hk.2.1 rfl) u
theorem only2_below {p b : Nat} {a w w' : World} (h : Only2 p b a w) (hb : Below w.heap.size w w') : Only2 p b a w' := h.trans (Kept.ofBelow hb fun _ hk => hk.1)
theorem keep5 {w : World} {p X Z i : Nat} {v : Value} {h q s g : Int} {u : Nat} (hX : p ≠ X) (hZ : p ≠ Z) (hc : (w.cell? ⟨X, 0, none⟩ = some (.int .i64 h) ∧ w.cell? ⟨X, 1, none⟩ = some (.int .i64 q)) ∧ w.cell? ⟨Z, 0, none⟩ = some (.int .i64 s) ∧ w.cell? ⟨Z, 1, none⟩ = some (.int .i64 g) ∧ w.cell? ⟨Z, 2, none⟩ = some (.int .u32 (u : Nat))) :
    ((w.setCell ⟨p, i, none⟩ v).cell? ⟨X, 0, none⟩ = some (.int .i64 h) ∧ (w.setCell ⟨p, i, none⟩ v).cell? ⟨X, 1, none⟩ = some (.int .i64 q)) ∧ (w.setCell ⟨p, i, none⟩ v).cell? ⟨Z, 0, none⟩ = some (.int .i64 s) ∧ (w.setCell ⟨p, i, none⟩ v).cell? ⟨Z, 1, none⟩ = some (.int .i64 g) ∧ (w.setCell ⟨p, i, none⟩ v).cell? ⟨Z, 2, none⟩ = some (.int .u32 (u : Nat)) := by
  have one : ∀ (b j : Nat), p ≠ b → (w.setCell ⟨p, i, none⟩ v).cell? ⟨b, j, none⟩ = w.cell? ⟨b, j, none⟩ := fun b j hne => World.cell?_setCell_other _ _ _ _ (fun e => hne (by cases e; rfl))
  exact ⟨⟨(one _ _ hX).trans hc.1.1, (one _ _ hX).trans hc.1.2⟩, (one _ _ hZ).trans hc.2.1, (one _ _ hZ).trans hc.2.2.1, (one _ _ hZ).trans hc.2.2.2⟩

set_option maxHeartbeats 4000000 in
theorem refRetire12_any (w : World) (R : Nat → Prop) (p pb b : Nat) (vB vW vF : Value) (O : Ov) (h q : Int) (hR : R12 w R p pb b vB vW vF O) (hmb : ∀ m ∈ O.base, MdI m) (hmw : ∀ m ∈ O.was, MdI m) (hk : KI (h, q)) (hl : O.base.length ≤ 100 ∧ O.was.length ≤ 99) :
    Calls Tryz.prog 38 #[.pointer (some ⟨p, 0, none⟩), .agg #[.int .i64 h, .int .i64 q]] w fun x w' => x = .returned (.bool (findM O.base (h, q)).isSome) ∧ Step12 w w' R p pb b (retireO O (h, q)) := by
  have HKI : Hid (KI (h, q)) := hk
  have HL : Hid (O.base.length ≤ 100 ∧ O.was.length ≤ 99) := hl
  have HMB : Hid (∀ m ∈ O.base, MdI m) := hmb
  have HMW : Hid (∀ m ∈ O.was, MdI m) := hmw
  clear hmb hmw
  have hb1 : Below w.heap.size w (w.alloc (.cells #[.int .i64 h, .int .i64 q] 32)) := (Below.refl _ _).alloc (Nat.le_refl _) _
  have HB1 : Hid (Below w.heap.size w (w.alloc (.cells #[.int .i64 h, .int .i64 q] 32))) := hb1
  have HR1 : Hid (R12 (w.alloc (.cells #[.int .i64 h, .int .i64 q] 32)) R p pb b vB vW vF O) := hR.below hb1
  have HK : Hid ((w.alloc (.cells #[.int .i64 h, .int .i64 q] 32)).heap[w.heap.size]? = some (.cells #[.int .i64 h, .int .i64 q] 32 (0, 0))) := heap_alloc_new w _
  have HXL : Hid (w.heap.size < (w.alloc (.cells #[.int .i64 h, .int .i64 q] 32)).heap.size) := lt_of_heap HK.out
  have HRL : Hid (¬ R w.heap.size) := fun e => absurd (hR.lt _ e) (Nat.lt_irrefl _)
  have HKC : Hid (∀ W, Below (w.alloc (.cells #[.int .i64 h, .int .i64 q] 32)).heap.size (w.alloc (.cells #[.int .i64 h, .int .i64 q] 32)) W → W.cell? ⟨w.heap.size, 0, none⟩ = some (.int .i64 h) ∧ W.cell? ⟨w.heap.size, 1, none⟩ = some (.int .i64 q)) := fun W hb => cells2' ((hb.block w.heap.size HXL.out).trans HK.out)
  obtain ⟨aB, lB, cB, eB⟩ : ∃ a l c, vB = .slice a l c := by obtain ⟨a, c, e⟩ := hR.base.shape; exact ⟨a, _, c, e⟩
  obtain ⟨aW, lW, cW, eW⟩ : ∃ a l c, vW = .slice a l c := by obtain ⟨a, c, e⟩ := hR.was.shape; exact ⟨a, _, c, e⟩
  subst eB eW
  have HCL : Hid (∀ W, Below (w.alloc (.cells #[.int .i64 h, .int .i64 q] 32)).heap.size (w.alloc (.cells #[.int .i64 h, .int .i64 q] 32)) W → W.cell? ⟨p, 1, none⟩ = some (.slice aB lB cB) ∧ W.cell? ⟨w.heap.size, 0, none⟩ = some (.int .i64 h) ∧ W.cell? ⟨w.heap.size, 1, none⟩ = some (.int .i64 q)) := fun W hb => ⟨(HR1.out.below hb).cells.2.1, HKC.out W hb⟩
  have HFB : Hid (∀ W, Below (w.alloc (.cells #[.int .i64 h, .int .i64 q] 32)).heap.size (w.alloc (.cells #[.int .i64 h, .int .i64 q] 32)) W → Calls Tryz.prog 36 #[.slice aB lB cB, .agg #[.int .i64 h, .int .i64 q]] W fun e w' => e = .returned (.tuple #[entV (findM O.base (h, q)), .bool (findM O.base (h, q)).isSome]) ∧ Below W.heap.size W w') := fun W hb => refFind11_any W _ _ h q (HR1.out.below hb).base
  cases hf : findM O.base (h, q) with
  | none =>
    rw [hf] at HFB
    rw [retire_none hf]
    have HF0 : Hid (∀ W, Below (w.alloc (.cells #[.int .i64 h, .int .i64 q] 32)).heap.size (w.alloc (.cells #[.int .i64 h, .int .i64 q] 32)) W → Calls Tryz.prog 36 #[.slice aB lB cB, .agg #[.int .i64 h, .int .i64 q]] W fun e w' => e = .returned (.tuple #[.agg #[.int .i64 0, .int .i64 0, .int .u32 0], .bool false]) ∧ Below W.heap.size W w') := HFB
    have HR0 : Hid (R12 w R p pb b (.slice aB lB cB) (.slice aW lW cW) vF O) := hR
    clear HFB hb1 hR hk hl hf HKC HK HMB HMW HKI HL
    go_enter Tryz.func38, Tryz.ntmps38
    go_wp2_with fail
    generalize (w.alloc (.cells #[.int .i64 h, .int .i64 q] 32)) = V at *
    go_region_held3 (fun w' => w'.cell? ⟨p, 1, none⟩ = some (.slice aB lB cB) ∧ w'.cell? ⟨w.heap.size, 0, none⟩ = some (.int .i64 h) ∧ w'.cell? ⟨w.heap.size, 1, none⟩ = some (.int .i64 q)) (first | exact HCL.out _ ((Below.refl _ _).alloc (Nat.le_refl _) _).drew | exact HCL.out _ (Below.refl _ _).drew | exact HCL.out _ HB3.out | exact HCL.out _ (HB3.out.alloc HB3.out.size _) | exact HCL.out _ (((HB3.out.setCell (Nat.le_refl _) _).setCell (Nat.le_refl _) _).setCell (Nat.le_refl _) _)) (first
      | (go_at_call 36; refine (HF0.out _ ((Below.refl _ _).alloc (Nat.le_refl _) _).drew).mono ?_; rintro e w3 ⟨rfl, hb3⟩
         have hge : Below V.heap.size V (V.alloc (.cells #[.int .i64 0, .int .i64 0, .int .u32 0] 37)) := (Below.refl _ _).alloc (Nat.le_refl _) _
         have HB3 : Hid (Below V.heap.size V w3) := hge.trans ((below_undrew hb3).mono hge.size)
         have HZ3 : Hid (w3.heap[V.heap.size]? = some (.cells #[.int .i64 0, .int .i64 0, .int .u32 0] 37 (0, 0))) := (hb3.block V.heap.size (by simp)).trans (heap_alloc_new V _)
         obtain ⟨⟨z0, z1, z2⟩, zf⟩ := cells3' HZ3.out
         have f0 := zf 0
         have f1 := zf 1
         have f2 := zf 2
         clear hb3 hge zf)
      | (go_at_call 36; refine (HF0.out _ (Below.refl _ _).drew).mono ?_; rintro e w3 ⟨rfl, hb3⟩
         have HB3 : Hid (Below V.heap.size V w3) := below_undrew hb3
         clear hb3))
    all_goals first
      | (have HB4 : Hid (Below V.heap.size V (((w3.setCell ⟨V.heap.size, 0, none⟩ (.int .i64 0)).setCell ⟨V.heap.size, 1, none⟩ (.int .i64 0)).setCell ⟨V.heap.size, 2, none⟩ (.int .u32 0))) := ((HB3.out.setCell (Nat.le_refl _) _).setCell (Nat.le_refl _) _).setCell (Nat.le_refl _) _
         have HZ4 : Hid ((((w3.setCell ⟨V.heap.size, 0, none⟩ (.int .i64 0)).setCell ⟨V.heap.size, 1, none⟩ (.int .i64 0)).setCell ⟨V.heap.size, 2, none⟩ (.int .u32 0)).heap[V.heap.size]? = some (.cells #[.int .i64 0, .int .i64 0, .int .u32 0] 37 (0, 0))) := (heap_set_row (heap_set_row (heap_set_row HZ3.out 0 _) 1 _) 2 _).trans rfl
         clear z0 z1 z2 f0 f1 f2 HZ3
         generalize hw4 : ((w3.setCell ⟨V.heap.size, 0, none⟩ (.int .i64 0)).setCell ⟨V.heap.size, 1, none⟩ (.int .i64 0)).setCell ⟨V.heap.size, 2, none⟩ (.int .u32 0) = w4 at *
         clear hw4
         obtain ⟨Zb, hZb⟩ : ∃ Zb, Zb = V.heap.size := ⟨_, rfl⟩
         have HZg : Hid (V.heap.size ≤ Zb) := Nat.le_of_eq hZb.symm
         rw [← hZb] at HZ4
         try rw [← hZb]
         clear hZb)
      | (have HB4 : Hid (Below V.heap.size V (w3.alloc (.cells #[.int .i64 0, .int .i64 0, .int .u32 0] 37))) := HB3.out.alloc HB3.out.size _
         have HZ4 : Hid ((w3.alloc (.cells #[.int .i64 0, .int .i64 0, .int .u32 0] 37)).heap[w3.heap.size]? = some (.cells #[.int .i64 0, .int .i64 0, .int .u32 0] 37 (0, 0))) := heap_alloc_new w3 _
         generalize hw4 : w3.alloc (.cells #[.int .i64 0, .int .i64 0, .int .u32 0] 37) = w4 at *
         clear hw4
         obtain ⟨Zb, hZb⟩ : ∃ Zb, Zb = w3.heap.size := ⟨_, rfl⟩
         have HZg : Hid (V.heap.size ≤ Zb) := by rw [hZb]; exact HB3.out.size
         rw [← hZb] at HZ4
         try rw [← hZb]
         clear hZb)
    all_goals
      go_wp2
      go_ret
      exact ⟨rfl, Step12.below HR0.out (HB1.out.trans (HB4.out.mono HB1.out.size))⟩
  | some e0 =>
    obtain ⟨s0, g0, u0⟩ := e0
    rw [hf] at HFB
    rw [retire_some hf]
    have HF0 : Hid (∀ W, Below (w.alloc (.cells #[.int .i64 h, .int .i64 q] 32)).heap.size (w.alloc (.cells #[.int .i64 h, .int .i64 q] 32)) W → Calls Tryz.prog 36 #[.slice aB lB cB, .agg #[.int .i64 h, .int .i64 q]] W fun e w' => e = .returned (.tuple #[.agg #[.int .i64 s0, .int .i64 g0, .int .u32 (u0 : Nat)], .bool true]) ∧ Below W.heap.size W w') := HFB
    have HMD : Hid (MdI ⟨h, q, s0, g0, u0⟩) := HMB.out _ (find_mem hf)
    have HRR : Hid (∀ g, R g → g < w.heap.size) := hR.lt
    clear HFB hb1 hR hk hl hf
    go_enter Tryz.func38, Tryz.ntmps38
    go_wp2_with fail
    generalize (w.alloc (.cells #[.int .i64 h, .int .i64 q] 32)) = V at *
    go_region_held3 (fun w' => w'.cell? ⟨p, 1, none⟩ = some (.slice aB lB cB) ∧ w'.cell? ⟨w.heap.size, 0, none⟩ = some (.int .i64 h) ∧ w'.cell? ⟨w.heap.size, 1, none⟩ = some (.int .i64 q)) (first | exact HCL.out _ ((Below.refl _ _).alloc (Nat.le_refl _) _).drew | exact HCL.out _ (Below.refl _ _).drew | exact HCL.out _ HB3.out | exact HCL.out _ (HB3.out.alloc HB3.out.size _) | exact HCL.out _ (((HB3.out.setCell (Nat.le_refl _) _).setCell (Nat.le_refl _) _).setCell (Nat.le_refl _) _)) (first
      | (go_at_call 36; refine (HF0.out _ ((Below.refl _ _).alloc (Nat.le_refl _) _).drew).mono ?_; rintro e w3 ⟨rfl, hb3⟩
         have hge : Below V.heap.size V (V.alloc (.cells #[.int .i64 0, .int .i64 0, .int .u32 0] 37)) := (Below.refl _ _).alloc (Nat.le_refl _) _
         have HB3 : Hid (Below V.heap.size V w3) := hge.trans ((below_undrew hb3).mono hge.size)
         have HZ3 : Hid (w3.heap[V.heap.size]? = some (.cells #[.int .i64 0, .int .i64 0, .int .u32 0] 37 (0, 0))) := (hb3.block V.heap.size (by simp)).trans (heap_alloc_new V _)
         obtain ⟨⟨z0, z1, z2⟩, zf⟩ := cells3' HZ3.out
         have f0 := zf 0
         have f1 := zf 1
         have f2 := zf 2
         clear hb3 hge zf)
      | (go_at_call 36; refine (HF0.out _ (Below.refl _ _).drew).mono ?_; rintro e w3 ⟨rfl, hb3⟩
         have HB3 : Hid (Below V.heap.size V w3) := below_undrew hb3
         clear hb3))
    all_goals first
      | (have HB4 : Hid (Below V.heap.size V (((w3.setCell ⟨V.heap.size, 0, none⟩ (.int .i64 s0)).setCell ⟨V.heap.size, 1, none⟩ (.int .i64 g0)).setCell ⟨V.heap.size, 2, none⟩ (.int .u32 (u0 : Nat)))) := ((HB3.out.setCell (Nat.le_refl _) _).setCell (Nat.le_refl _) _).setCell (Nat.le_refl _) _
         have HZ4 : Hid ((((w3.setCell ⟨V.heap.size, 0, none⟩ (.int .i64 s0)).setCell ⟨V.heap.size, 1, none⟩ (.int .i64 g0)).setCell ⟨V.heap.size, 2, none⟩ (.int .u32 (u0 : Nat))).heap[V.heap.size]? = some (.cells #[.int .i64 s0, .int .i64 g0, .int .u32 (u0 : Nat)] 37 (0, 0))) := (heap_set_row (heap_set_row (heap_set_row HZ3.out 0 _) 1 _) 2 _).trans rfl
         clear z0 z1 z2 f0 f1 f2 HZ3
         generalize hw4 : ((w3.setCell ⟨V.heap.size, 0, none⟩ (.int .i64 s0)).setCell ⟨V.heap.size, 1, none⟩ (.int .i64 g0)).setCell ⟨V.heap.size, 2, none⟩ (.int .u32 (u0 : Nat)) = w4 at *
         clear hw4
         obtain ⟨Zb, hZb⟩ : ∃ Zb, Zb = V.heap.size := ⟨_, rfl⟩
         have HZg : Hid (V.heap.size ≤ Zb) := Nat.le_of_eq hZb.symm
         rw [← hZb] at HZ4
         try rw [← hZb]
         clear hZb)
      | (have HB4 : Hid (Below V.heap.size V (w3.alloc (.cells #[.int .i64 s0, .int .i64 g0, .int .u32 (u0 : Nat)] 37))) := HB3.out.alloc HB3.out.size _
         have HZ4 : Hid ((w3.alloc (.cells #[.int .i64 s0, .int .i64 g0, .int .u32 (u0 : Nat)] 37)).heap[w3.heap.size]? = some (.cells #[.int .i64 s0, .int .i64 g0, .int .u32 (u0 : Nat)] 37 (0, 0))) := heap_alloc_new w3 _
         generalize hw4 : w3.alloc (.cells #[.int .i64 s0, .int .i64 g0, .int .u32 (u0 : Nat)] 37) = w4 at *
         clear hw4
         obtain ⟨Zb, hZb⟩ : ∃ Zb, Zb = w3.heap.size := ⟨_, rfl⟩
         have HZg : Hid (V.heap.size ≤ Zb) := by rw [hZb]; exact HB3.out.size
         rw [← hZb] at HZ4
         try rw [← hZb]
         clear hZb)
    all_goals
      obtain ⟨⟨x0, x1, x2⟩, xf⟩ := cells3' HZ4.out
      have HR4 : Hid (R12 w4 R p pb b (.slice aB lB cB) (.slice aW lW cW) vF O) := HR1.out.below HB4.out
      have HBw4 : Hid (Below w.heap.size w w4) := HB1.out.trans (HB4.out.mono HB1.out.size)
      have HS4 : Hid (∀ W, Below w4.heap.size w4 W → (W.cell? ⟨w.heap.size, 0, none⟩ = some (.int .i64 h) ∧ W.cell? ⟨w.heap.size, 1, none⟩ = some (.int .i64 q)) ∧ W.cell? ⟨Zb, 0, none⟩ = some (.int .i64 s0) ∧ W.cell? ⟨Zb, 1, none⟩ = some (.int .i64 g0) ∧ W.cell? ⟨Zb, 2, none⟩ = some (.int .u32 (u0 : Nat))) := fun W hb => ⟨HKC.out W (HB4.out.trans (hb.mono HB4.out.size)), (hb.cell (block_lt_of_cell x0)).trans x0, (hb.cell (block_lt_of_cell x1)).trans x1, (hb.cell (block_lt_of_cell x2)).trans x2⟩
      have HK4 : Hid (w4.heap[w.heap.size]? = some (.cells #[.int .i64 h, .int .i64 q] 32 (0, 0))) := (HB4.out.block w.heap.size HXL.out).trans HK.out
      have HKL : Hid (w.heap.size < w4.heap.size) := Nat.lt_of_lt_of_le HXL.out HB4.out.size
      have HZP : Hid (p ≠ Zb ∧ p ≠ w.heap.size) := by
        have h1 := HRR.out p HR4.out.inP.1
        have h2 := HZg.out
        have h3 := HB1.out.size
        exact ⟨by omega, by omega⟩
      have HPU : Hid (∀ W, Below w4.heap.size w4 W → Calls Tryz.prog 39 #[.slice aW lW cW, .agg #[.int .i64 h, .int .i64 q], .agg #[.int .i64 s0, .int .i64 g0, .int .u32 (u0 : Nat)]] W fun e w' => ∃ u', e = .returned u' ∧ Els encM 5 w' u' (putL O.was (h, q) (s0, g0, u0)) ∧ Below W.heap.size W w' ∧ ∀ g, u'.ownBlock = some g → W.heap.size ≤ g ∧ g < w'.heap.size) := fun W hb => refput12_any W _ O.was h q s0 g0 u0 (HR4.out.below hb).was (by have := HL.out; omega) HMW.out HMD.out
      have HAP : Hid (∀ W u, Below w4.heap.size w4 W → Keys W u [(h, q)] → True) := fun _ _ _ _ => trivial
      clear HF0 HCL HR1 HXL x0 x1 x2 xf HZ4 HMD HAP
      have c2 := HR4.out.cells.2.2.1
      obtain ⟨⟨k0, k1⟩, y0, y1, y2⟩ := HS4.out w4 (Below.refl _ _)
      go_upto_region 3 with fail
      go_cut [6] from 17 (fun s6 wx => s6 = .bool true ∧ ∃ R' vW', Hid (R12 wx R' p pb b (.slice aB lB cB) vW' vF { O with was := putL O.was (h, q) (s0, g0, u0) }) ∧ Hid (More R R' w) ∧ Hid (Only2 p b w wx) ∧ Hid (wx.heap[w.heap.size]? = some (.cells #[.int .i64 h, .int .i64 q] 32 (0, 0))))
      case first =>
        go_wp2_with fail
        go_region_law (first
          | (go_simp; go_at_call 39; refine (HPU.out _ (Below.refl _ _).drew).mono ?_; rintro e w5 ⟨u5, rfl, hu5, hb5, hn5⟩
             have HB5 : Hid (Below w4.heap.size w4 w5) := below_undrew hb5
             have HU5 : Hid (Els encM 5 w5 u5 (putL O.was (h, q) (s0, g0, u0)) ∧ ∀ g, u5.ownBlock = some g → w4.heap.size ≤ g ∧ g < w5.heap.size) := ⟨hu5, hn5⟩
             obtain ⟨a5, c5, e5⟩ := hu5.shape
             generalize (putL O.was (h, q) (s0, g0, u0)).length = l5 at e5
             subst e5
             have HR5 : Hid (R12 w5 R p pb b (.slice aB lB cB) (.slice aW lW cW) vF O) := HR4.out.below HB5.out
             have c3 := HR5.out.cells.2.2.1
             have f3 := HR5.out.frozen 2
             clear hu5 hb5 hn5))
        all_goals
          go_wp2
          go_meet
          have HN5 : Hid (∀ g, (Value.slice a5 l5 c5).ownBlock = some g → ¬ R g ∧ g < w5.heap.size) := fun g hg => by
            have h1 := HU5.out.2 g hg
            exact ⟨fun e => by have := HR4.out.lt g e; omega, h1.2⟩
          exact ⟨rfl, _, _, HR5.out.setWas HU5.out.1 HN5.out, fun g hg => hg.elim .inl fun e => .inr (Nat.le_trans HBw4.out.size (HU5.out.2 g e).1), only2_set (Kept.ofBelow (HBw4.out.trans (HB5.out.mono HBw4.out.size)) fun _ hk => hk.1) _, (Below.heap_setCell w5 _ _ _ (fun e => HZP.out.2 e.symm)).trans ((HB5.out.block _ HKL.out).trans HK4.out)⟩
      case rest =>
        obtain ⟨rfl, R6, vW6, HR6, HM6, HO6, HK6⟩ := hcut
        have HKC6 : Hid (∀ W, Below wc.heap.size wc W → W.cell? ⟨w.heap.size, 0, none⟩ = some (.int .i64 h) ∧ W.cell? ⟨w.heap.size, 1, none⟩ = some (.int .i64 q)) := fun W hb => cells2' ((hb.block w.heap.size (lt_of_heap HK6.out)).trans HK6.out)
        have HS6 : Hid (w.heap.size ≤ wc.heap.size) := HO6.out.size
        have HAP : Hid (∀ W u, Below wc.heap.size wc W → Keys W u [(h, q)] → Calls Tryz.prog 19 #[.slice aB lB cB, .slice none 0 0, u] W fun e w' => ∃ u', e = .returned u' ∧ Els encM 5 w' u' (cutL O.base (h, q)) ∧ Below W.heap.size W w' ∧ ∀ g, u'.ownBlock = some g → W.heap.size ≤ g ∧ g < w'.heap.size) := fun W u hb hu => refApply11_new W _ _ _ O.base [] [(h, q)] (HR6.out.below hb).base (Els.nil _) hu HL.out.1 (by simp) HMB.out (by simp)
        have HON : Hid (∀ W, Calls Tryz.prog 42 #[.agg #[.int .i64 h, .int .i64 q]] W fun e w' => ∃ u, e = .returned u ∧ Keys w' u [(h, q)] ∧ Below W.heap.size W w') := fun W => refone12_any W h q HKI.out
        obtain ⟨k0, k1⟩ := HKC6.out wc (Below.refl _ _)
        have c1 := HR6.out.cells.2.1
        clear HR4 HBw4 HS4 HPU HK4 HKL HZP c2 HB4 HB1 HKC HZg y0 y1 y2 HK
        go_upto_region 4 with fail
        go_cut [6] from 27 (fun s6 wx => s6 = .bool true ∧ ∃ R' vB', Hid (R12 wx R' p pb b vB' vW6 vF { O with was := putL O.was (h, q) (s0, g0, u0), base := cutL O.base (h, q) }) ∧ Hid (More R R' w) ∧ Hid (Only2 p b w wx))
        case first =>
          go_wp2_with fail
          go_region_law (first
            | (go_simp; go_at_call 19; refine (HAP.out _ _ HB7.out HU7.out).mono ?_; rintro e w8 ⟨u8, rfl, hu8, hb8, hn8⟩
               have HB8 : Hid (Below wc.heap.size wc w8) := HB7.out.trans (hb8.mono HB7.out.size)
               have HU8 : Hid (Els encM 5 w8 u8 (cutL O.base (h, q)) ∧ ∀ g, u8.ownBlock = some g → wc.heap.size ≤ g ∧ g < w8.heap.size) := ⟨hu8, fun g hg => ⟨Nat.le_trans HB7.out.size (hn8 g hg).1, (hn8 g hg).2⟩⟩
               obtain ⟨a8, c8, e8⟩ := hu8.shape
               generalize (cutL O.base (h, q)).length = l8 at e8
               subst e8
               have HR8 : Hid (R12 w8 R6 p pb b (.slice aB lB cB) vW6 vF { O with was := putL O.was (h, q) (s0, g0, u0) }) := HR6.out.below HB8.out
               have c3 := HR8.out.cells.2.1
               have f3 := HR8.out.frozen 1
               clear hu8 hb8 hn8)
            | (go_simp; go_at_call 42; refine (HON.out _).mono ?_; rintro e w7 ⟨u7, rfl, hu7, hb7⟩
               have HB7 : Hid (Below wc.heap.size wc w7) := below_undrew hb7
               have HU7 : Hid (Keys w7 u7 [(h, q)]) := hu7
               have c7 := (HR6.out.below HB7.out).cells.2.1
               clear hu7 hb7))
          all_goals
            go_wp2
            go_meet
            have HN8 : Hid (∀ g, (Value.slice a8 l8 c8).ownBlock = some g → ¬ R6 g ∧ g < w8.heap.size) := fun g hg => by
              have h1 := HU8.out.2 g hg
              exact ⟨fun e => by have := HR6.out.lt g e; omega, h1.2⟩
            exact ⟨rfl, _, _, HR8.out.setBase HU8.out.1 HN8.out, fun g hg => hg.elim (fun e => HM6.out g e) fun e => .inr (Nat.le_trans HS6.out (HU8.out.2 g e).1), only2_set (only2_below HO6.out HB8.out) _⟩
        case rest =>
          obtain ⟨rfl, R9, vB9, HR9, HM9, HO9⟩ := hcut
          go_wp2
          go_ret
          exact ⟨rfl, R9, vB9, vW6, vF, HR9.out, HM9.out, HO9.out⟩
end Go.Proofs.YtjhkcdnfnmglhaaGreatDoor

/- The document's overlay: Sum. (Written by wip/mk_ref12b.py.) -/
namespace Go.Proofs.YtjhkcdnfnmglhaaGreatDoor
open Go.RowKit
set_option linter.unusedVariables false
set_option maxRecDepth 20000

set_option maxHeartbeats 4000000 in
theorem refSum12_any (w : World) (R : Nat → Prop) (p pb b : Nat) (vB vW vF : Value) (O : Ov) (t : Int) (h q : Int) (u : Nat) (hR : R12 w R p pb b vB vW vF O) (hO : OvOk O t) (ht : t ≤ 1000000000000000) (hu : u < 4294967296) (hl : O.fresh.length ≤ 100) :
    Calls Tryz.prog 13 #[.pointer (some ⟨p, 0, none⟩), .agg #[.int .i64 h, .int .i64 q], .int .u32 (u : Nat)] w fun x w' => x = .returned (.int .i64 (sumO O (h, q) u).2) ∧ Step12 w w' R p pb b (sumO O (h, q) u).1 := by
  have HL : Hid (O.fresh.length ≤ 100) := hl
  have HMF : Hid (∀ m ∈ O.fresh, MdI m) := hO.mdF ht
  have hb1 : Below w.heap.size w (w.alloc (.cells #[.int .i64 h, .int .i64 q] 32)) := (Below.refl _ _).alloc (Nat.le_refl _) _
  have HB1 : Hid (Below w.heap.size w (w.alloc (.cells #[.int .i64 h, .int .i64 q] 32))) := hb1
  have HR1 : Hid (R12 (w.alloc (.cells #[.int .i64 h, .int .i64 q] 32)) R p pb b vB vW vF O) := hR.below hb1
  have HK : Hid ((w.alloc (.cells #[.int .i64 h, .int .i64 q] 32)).heap[w.heap.size]? = some (.cells #[.int .i64 h, .int .i64 q] 32 (0, 0))) := heap_alloc_new w _
  have HXL : Hid (w.heap.size < (w.alloc (.cells #[.int .i64 h, .int .i64 q] 32)).heap.size) := lt_of_heap HK.out
  have HKC : Hid (∀ W, Below (w.alloc (.cells #[.int .i64 h, .int .i64 q] 32)).heap.size (w.alloc (.cells #[.int .i64 h, .int .i64 q] 32)) W → W.cell? ⟨w.heap.size, 0, none⟩ = some (.int .i64 h) ∧ W.cell? ⟨w.heap.size, 1, none⟩ = some (.int .i64 q)) := fun W hb => cells2' ((hb.block w.heap.size HXL.out).trans HK.out)
  obtain ⟨aF, lF, cF, eF⟩ : ∃ a l c, vF = .slice a l c := by obtain ⟨a, c, e⟩ := hR.fresh.shape; exact ⟨a, _, c, e⟩
  subst eF
  have HCL : Hid (∀ W, Below (w.alloc (.cells #[.int .i64 h, .int .i64 q] 32)).heap.size (w.alloc (.cells #[.int .i64 h, .int .i64 q] 32)) W → W.cell? ⟨p, 3, none⟩ = some (.slice aF lF cF) ∧ W.cell? ⟨w.heap.size, 0, none⟩ = some (.int .i64 h) ∧ W.cell? ⟨w.heap.size, 1, none⟩ = some (.int .i64 q)) := fun W hb => ⟨(HR1.out.below hb).cells.2.2.2, HKC.out W hb⟩
  have HFF : Hid (∀ W, Below (w.alloc (.cells #[.int .i64 h, .int .i64 q] 32)).heap.size (w.alloc (.cells #[.int .i64 h, .int .i64 q] 32)) W → Calls Tryz.prog 36 #[.slice aF lF cF, .agg #[.int .i64 h, .int .i64 q]] W fun e w' => e = .returned (.tuple #[entV (findM O.fresh (h, q)), .bool (findM O.fresh (h, q)).isSome]) ∧ Below W.heap.size W w') := fun W hb => refFind11_any W _ _ h q (HR1.out.below hb).fresh
  cases hf : findM O.fresh (h, q) with
  | none =>
    rw [hf] at HFF
    have HSO : Hid (sumO O (h, q) u = (O, 2)) := by unfold Hid sumO; rw [hf]
    rw [HSO.out]
    have HF0 : Hid (∀ W, Below (w.alloc (.cells #[.int .i64 h, .int .i64 q] 32)).heap.size (w.alloc (.cells #[.int .i64 h, .int .i64 q] 32)) W → Calls Tryz.prog 36 #[.slice aF lF cF, .agg #[.int .i64 h, .int .i64 q]] W fun e w' => e = .returned (.tuple #[.agg #[.int .i64 0, .int .i64 0, .int .u32 0], .bool false]) ∧ Below W.heap.size W w') := HFF
    have HR0 : Hid (R12 w R p pb b vB vW (.slice aF lF cF) O) := hR
    clear HFF hb1 hR hO hu hl hf HKC HK HMF HL HSO
    go_enter Tryz.func13, Tryz.ntmps13
    go_wp2_with fail
    generalize (w.alloc (.cells #[.int .i64 h, .int .i64 q] 32)) = V at *
    go_region_held3 (fun w' => w'.cell? ⟨p, 3, none⟩ = some (.slice aF lF cF) ∧ w'.cell? ⟨w.heap.size, 0, none⟩ = some (.int .i64 h) ∧ w'.cell? ⟨w.heap.size, 1, none⟩ = some (.int .i64 q)) (first | exact HCL.out _ ((Below.refl _ _).alloc (Nat.le_refl _) _).drew | exact HCL.out _ (Below.refl _ _).drew | exact HCL.out _ HB3.out | exact HCL.out _ (HB3.out.alloc HB3.out.size _) | exact HCL.out _ (((HB3.out.setCell (Nat.le_refl _) _).setCell (Nat.le_refl _) _).setCell (Nat.le_refl _) _)) (first
      | (go_at_call 36; refine (HF0.out _ ((Below.refl _ _).alloc (Nat.le_refl _) _).drew).mono ?_; rintro e w3 ⟨rfl, hb3⟩
         have hge : Below V.heap.size V (V.alloc (.cells #[.int .i64 0, .int .i64 0, .int .u32 0] 37)) := (Below.refl _ _).alloc (Nat.le_refl _) _
         have HB3 : Hid (Below V.heap.size V w3) := hge.trans ((below_undrew hb3).mono hge.size)
         have HZ3 : Hid (w3.heap[V.heap.size]? = some (.cells #[.int .i64 0, .int .i64 0, .int .u32 0] 37 (0, 0))) := (hb3.block V.heap.size (by simp)).trans (heap_alloc_new V _)
         obtain ⟨⟨z0, z1, z2⟩, zf⟩ := cells3' HZ3.out
         have f0 := zf 0
         have f1 := zf 1
         have f2 := zf 2
         clear hb3 hge zf)
      | (go_at_call 36; refine (HF0.out _ (Below.refl _ _).drew).mono ?_; rintro e w3 ⟨rfl, hb3⟩
         have HB3 : Hid (Below V.heap.size V w3) := below_undrew hb3
         clear hb3))
    all_goals first
      | (have HB4 : Hid (Below V.heap.size V (((w3.setCell ⟨V.heap.size, 0, none⟩ (.int .i64 0)).setCell ⟨V.heap.size, 1, none⟩ (.int .i64 0)).setCell ⟨V.heap.size, 2, none⟩ (.int .u32 0))) := ((HB3.out.setCell (Nat.le_refl _) _).setCell (Nat.le_refl _) _).setCell (Nat.le_refl _) _
         have HZ4 : Hid ((((w3.setCell ⟨V.heap.size, 0, none⟩ (.int .i64 0)).setCell ⟨V.heap.size, 1, none⟩ (.int .i64 0)).setCell ⟨V.heap.size, 2, none⟩ (.int .u32 0)).heap[V.heap.size]? = some (.cells #[.int .i64 0, .int .i64 0, .int .u32 0] 37 (0, 0))) := (heap_set_row (heap_set_row (heap_set_row HZ3.out 0 _) 1 _) 2 _).trans rfl
         clear z0 z1 z2 f0 f1 f2 HZ3
         generalize hw4 : ((w3.setCell ⟨V.heap.size, 0, none⟩ (.int .i64 0)).setCell ⟨V.heap.size, 1, none⟩ (.int .i64 0)).setCell ⟨V.heap.size, 2, none⟩ (.int .u32 0) = w4 at *
         clear hw4
         obtain ⟨Zb, hZb⟩ : ∃ Zb, Zb = V.heap.size := ⟨_, rfl⟩
         have HZg : Hid (V.heap.size ≤ Zb) := Nat.le_of_eq hZb.symm
         rw [← hZb] at HZ4
         try rw [← hZb]
         clear hZb)
      | (have HB4 : Hid (Below V.heap.size V (w3.alloc (.cells #[.int .i64 0, .int .i64 0, .int .u32 0] 37))) := HB3.out.alloc HB3.out.size _
         have HZ4 : Hid ((w3.alloc (.cells #[.int .i64 0, .int .i64 0, .int .u32 0] 37)).heap[w3.heap.size]? = some (.cells #[.int .i64 0, .int .i64 0, .int .u32 0] 37 (0, 0))) := heap_alloc_new w3 _
         generalize hw4 : w3.alloc (.cells #[.int .i64 0, .int .i64 0, .int .u32 0] 37) = w4 at *
         clear hw4
         obtain ⟨Zb, hZb⟩ : ∃ Zb, Zb = w3.heap.size := ⟨_, rfl⟩
         have HZg : Hid (V.heap.size ≤ Zb) := by rw [hZb]; exact HB3.out.size
         rw [← hZb] at HZ4
         try rw [← hZb]
         clear hZb)
    all_goals
      go_wp2
      go_ret
      exact ⟨rfl, Step12.below HR0.out (HB1.out.trans (HB4.out.mono HB1.out.size))⟩
  | some e0 =>
    obtain ⟨s0, g0, u0⟩ := e0
    rw [hf] at HFF
    have HSO : Hid (sumO O (h, q) u = (setF O (h, q) (s0, g0, u), 0)) := by unfold Hid sumO; rw [hf]
    rw [HSO.out]
    have HF0 : Hid (∀ W, Below (w.alloc (.cells #[.int .i64 h, .int .i64 q] 32)).heap.size (w.alloc (.cells #[.int .i64 h, .int .i64 q] 32)) W → Calls Tryz.prog 36 #[.slice aF lF cF, .agg #[.int .i64 h, .int .i64 q]] W fun e w' => e = .returned (.tuple #[.agg #[.int .i64 s0, .int .i64 g0, .int .u32 (u0 : Nat)], .bool true]) ∧ Below W.heap.size W w') := HFF
    have HMD : Hid (MdI ⟨h, q, s0, g0, u⟩) := by
      have := HMF.out _ (find_mem hf)
      exact ⟨this.1, this.2.1, this.2.2.1, this.2.2.2.1, hu⟩
    have HRR : Hid (∀ g, R g → g < w.heap.size) := hR.lt
    clear HFF hb1 hR hO hu hl hf HSO
    go_enter Tryz.func13, Tryz.ntmps13
    go_wp2_with fail
    generalize (w.alloc (.cells #[.int .i64 h, .int .i64 q] 32)) = V at *
    go_region_held3 (fun w' => w'.cell? ⟨p, 3, none⟩ = some (.slice aF lF cF) ∧ w'.cell? ⟨w.heap.size, 0, none⟩ = some (.int .i64 h) ∧ w'.cell? ⟨w.heap.size, 1, none⟩ = some (.int .i64 q)) (first | exact HCL.out _ ((Below.refl _ _).alloc (Nat.le_refl _) _).drew | exact HCL.out _ (Below.refl _ _).drew | exact HCL.out _ HB3.out | exact HCL.out _ (HB3.out.alloc HB3.out.size _) | exact HCL.out _ (((HB3.out.setCell (Nat.le_refl _) _).setCell (Nat.le_refl _) _).setCell (Nat.le_refl _) _)) (first
      | (go_at_call 36; refine (HF0.out _ ((Below.refl _ _).alloc (Nat.le_refl _) _).drew).mono ?_; rintro e w3 ⟨rfl, hb3⟩
         have hge : Below V.heap.size V (V.alloc (.cells #[.int .i64 0, .int .i64 0, .int .u32 0] 37)) := (Below.refl _ _).alloc (Nat.le_refl _) _
         have HB3 : Hid (Below V.heap.size V w3) := hge.trans ((below_undrew hb3).mono hge.size)
         have HZ3 : Hid (w3.heap[V.heap.size]? = some (.cells #[.int .i64 0, .int .i64 0, .int .u32 0] 37 (0, 0))) := (hb3.block V.heap.size (by simp)).trans (heap_alloc_new V _)
         obtain ⟨⟨z0, z1, z2⟩, zf⟩ := cells3' HZ3.out
         have f0 := zf 0
         have f1 := zf 1
         have f2 := zf 2
         clear hb3 hge zf)
      | (go_at_call 36; refine (HF0.out _ (Below.refl _ _).drew).mono ?_; rintro e w3 ⟨rfl, hb3⟩
         have HB3 : Hid (Below V.heap.size V w3) := below_undrew hb3
         clear hb3))
    all_goals first
      | (have HB4 : Hid (Below V.heap.size V (((w3.setCell ⟨V.heap.size, 0, none⟩ (.int .i64 s0)).setCell ⟨V.heap.size, 1, none⟩ (.int .i64 g0)).setCell ⟨V.heap.size, 2, none⟩ (.int .u32 (u0 : Nat)))) := ((HB3.out.setCell (Nat.le_refl _) _).setCell (Nat.le_refl _) _).setCell (Nat.le_refl _) _
         have HZ4 : Hid ((((w3.setCell ⟨V.heap.size, 0, none⟩ (.int .i64 s0)).setCell ⟨V.heap.size, 1, none⟩ (.int .i64 g0)).setCell ⟨V.heap.size, 2, none⟩ (.int .u32 (u0 : Nat))).heap[V.heap.size]? = some (.cells #[.int .i64 s0, .int .i64 g0, .int .u32 (u0 : Nat)] 37 (0, 0))) := (heap_set_row (heap_set_row (heap_set_row HZ3.out 0 _) 1 _) 2 _).trans rfl
         clear z0 z1 z2 f0 f1 f2 HZ3
         generalize hw4 : ((w3.setCell ⟨V.heap.size, 0, none⟩ (.int .i64 s0)).setCell ⟨V.heap.size, 1, none⟩ (.int .i64 g0)).setCell ⟨V.heap.size, 2, none⟩ (.int .u32 (u0 : Nat)) = w4 at *
         clear hw4
         obtain ⟨Zb, hZb⟩ : ∃ Zb, Zb = V.heap.size := ⟨_, rfl⟩
         have HZg : Hid (V.heap.size ≤ Zb) := Nat.le_of_eq hZb.symm
         rw [← hZb] at HZ4
         try rw [← hZb]
         clear hZb)
      | (have HB4 : Hid (Below V.heap.size V (w3.alloc (.cells #[.int .i64 s0, .int .i64 g0, .int .u32 (u0 : Nat)] 37))) := HB3.out.alloc HB3.out.size _
         have HZ4 : Hid ((w3.alloc (.cells #[.int .i64 s0, .int .i64 g0, .int .u32 (u0 : Nat)] 37)).heap[w3.heap.size]? = some (.cells #[.int .i64 s0, .int .i64 g0, .int .u32 (u0 : Nat)] 37 (0, 0))) := heap_alloc_new w3 _
         generalize hw4 : w3.alloc (.cells #[.int .i64 s0, .int .i64 g0, .int .u32 (u0 : Nat)] 37) = w4 at *
         clear hw4
         obtain ⟨Zb, hZb⟩ : ∃ Zb, Zb = w3.heap.size := ⟨_, rfl⟩
         have HZg : Hid (V.heap.size ≤ Zb) := by rw [hZb]; exact HB3.out.size
         rw [← hZb] at HZ4
         try rw [← hZb]
         clear hZb)
    all_goals
      obtain ⟨⟨x0, x1, x2⟩, xf⟩ := cells3' HZ4.out
      have x3 := xf 2
      have HZ5 : Hid ((w4.setCell ⟨Zb, 2, none⟩ (.int .u32 (u : Nat))).heap[Zb]? = some (.cells #[.int .i64 s0, .int .i64 g0, .int .u32 (u : Nat)] 37 (0, 0))) := (heap_set_row HZ4.out 2 _).trans rfl
      have HB5 : Hid (Below V.heap.size V (w4.setCell ⟨Zb, 2, none⟩ (.int .u32 (u : Nat)))) := HB4.out.setCell HZg.out _
      clear HZ4
      go_upto_region 5 with fail
      clear x0 x1 x2 xf x3
      generalize w4.setCell ⟨Zb, 2, none⟩ (.int .u32 (u : Nat)) = w5 at *
      have HR5 : Hid (R12 w5 R p pb b vB vW (.slice aF lF cF) O) := HR1.out.below HB5.out
      have HBw5 : Hid (Below w.heap.size w w5) := HB1.out.trans (HB5.out.mono HB1.out.size)
      obtain ⟨⟨y0, y1, y2⟩, _⟩ := cells3' HZ5.out
      obtain ⟨k0, k1⟩ := HKC.out w5 HB5.out
      have c3 := HR5.out.cells.2.2.2
      have HPU : Hid (∀ W, Below w5.heap.size w5 W → Calls Tryz.prog 39 #[.slice aF lF cF, .agg #[.int .i64 h, .int .i64 q], .agg #[.int .i64 s0, .int .i64 g0, .int .u32 (u : Nat)]] W fun e w' => ∃ u', e = .returned u' ∧ Els encM 5 w' u' (putL O.fresh (h, q) (s0, g0, u)) ∧ Below W.heap.size W w' ∧ ∀ g, u'.ownBlock = some g → W.heap.size ≤ g ∧ g < w'.heap.size) := fun W hb => refput12_any W _ O.fresh h q s0 g0 u (HR5.out.below hb).fresh HL.out HMF.out HMD.out
      clear HF0 HCL HR1 HXL HZ5 HB4
      go_cut [6] from 22 (fun s6 wx => s6 = .int .i64 0 ∧ Hid (Step12 w wx R p pb b (setF O (h, q) (s0, g0, u))))
      case first =>
        go_wp2_with fail
        go_region_law (first
          | (go_simp; go_at_call 39; refine (HPU.out _ (Below.refl _ _).drew).mono ?_; rintro e w6 ⟨u6, rfl, hu6, hb6, hn6⟩
             have HB6 : Hid (Below w5.heap.size w5 w6) := below_undrew hb6
             have HU6 : Hid (Els encM 5 w6 u6 (putL O.fresh (h, q) (s0, g0, u)) ∧ ∀ g, u6.ownBlock = some g → w5.heap.size ≤ g ∧ g < w6.heap.size) := ⟨hu6, hn6⟩
             obtain ⟨a6, c6, e6⟩ := hu6.shape
             generalize (putL O.fresh (h, q) (s0, g0, u)).length = l6 at e6
             subst e6
             have HR6 : Hid (R12 w6 R p pb b vB vW (.slice aF lF cF) O) := HR5.out.below HB6.out
             have c6' := HR6.out.cells.2.2.2
             have f6 := HR6.out.frozen 3
             clear hu6 hb6 hn6))
        all_goals
          go_wp2
          go_meet
          have HN6 : Hid (∀ g, (Value.slice a6 l6 c6).ownBlock = some g → ¬ R g ∧ g < w6.heap.size) := fun g hg => by
            have h1 := HU6.out.2 g hg
            exact ⟨fun e => by have := HR5.out.lt g e; omega, h1.2⟩
          exact ⟨rfl, _, _, _, _, HR6.out.setFresh HU6.out.1 HN6.out, fun g hg => hg.elim .inl fun e => .inr (Nat.le_trans HBw5.out.size (HU6.out.2 g e).1), only2_set (Kept.ofBelow (HBw5.out.trans (HB6.out.mono HBw5.out.size)) fun _ hk => hk.1) _⟩
      case rest =>
        obtain ⟨rfl, HST⟩ := hcut
        go_wp2
        go_ret
        exact ⟨rfl, HST.out⟩
end Go.Proofs.YtjhkcdnfnmglhaaGreatDoor
