/- Some texts of mine, one behind the other (joined by program). -/
import Derived.Test.YtndeknkfljnjoaaDoorWalkChunk
import Derived.Test.YtndeknkfljnjoaaDoorWalkGet6
import Derived.Test.YtndeknkfljnjoaaDoorCut6
import Derived.Test.YtndeknkfljnjoaaDoorWalkBytes
import Derived.Test.YtndeknkfljnjoaaDoorAppOcts
import Derived.OwnWalkIn
import Derived.Maps.OwnIn
import Derived.Test.YtndeknkfljnjoaaDoorRec6

/- Contract of the iterator 'parts': a transaction's parts and its foot, by footprints. -/
namespace Go.Proofs.YtndeknkfljnjoaaDoor
open Go.RowKit Go.Shelf
set_option linter.unusedVariables false
attribute [local go_sem] Oper.semAt_some

theorem RoundIn.into {m m' l l2 : Nat} {P : Program} {fn : FuncId} {tmps : Array Value} {assign body : Code} {W : World} {R : Ending → World → Prop} (h : RoundIn Fence.wide m P l fn tmps assign body W R) : RoundIn (Fence.wide.inRound l2) m' P l fn tmps assign body W R :=
  ⟨h.1, fun c cs _ => h.2 c cs (room_wide _)⟩
theorem RoundIn.any {m m' l : Nat} {P : Program} {fn : FuncId} {tmps : Array Value} {assign body : Code} {W : World} {R : Ending → World → Prop} (h : RoundIn Fence.wide m P l fn tmps assign body W R) : RoundIn Fence.wide m' P l fn tmps assign body W R :=
  ⟨h.1, fun c cs _ => h.2 c cs (room_wide _)⟩

theorem parts_v (w : World) (e n : Int) (v : Value) (a : Option Addr) (len cap : Nat) (hv : v = .slice a len cap) :
    Calls Tryd.prog 31 #[.int .i64 e, .int .i64 n, v] w fun x w' => x = .returned (.func (.func 47) #[] #[.pointer (some ⟨w.heap.size, 0, none⟩), .pointer (some ⟨w.heap.size + 1, 0, none⟩), .pointer (some ⟨w.heap.size + 2, 0, none⟩)]) ∧ w' = ((w.alloc (.cells #[.int .i64 e] 3)).alloc (.cells #[.int .i64 n] 3)).alloc (.cells #[v] 22) := by
  subst hv
  have hmf : ∀ (fn : Fn) (first cap : Array Value) (w : World), (Instr.makeFunc fn first cap).run Tryd.prog w = .ok (.func fn first cap) w := fun _ _ _ _ => rfl
  go_enter Tryd.func31, Tryd.ntmps31
  go_wp2
  go_ret
  exact ⟨rfl, rfl⟩

theorem chunks_parts (L : Nat) : chunks 112 L = partsN L := rfl
/-- What a round of parts is handed. -/
def okPart (e n : Int) (zs : List Nat) (pre : List (Part × Value)) (x : Part × Value) (W : World) : Prop :=
  Octs W x.2 x.1.data ∧ ((pre.length < partsN zs.length ∧ x.1 = partOf e n zs pre.length) ∨ (pre.length = partsN zs.length ∧ x.1 = footOf e n zs))
abbrev partEnc (x : Part × Value) : Array Value := #[pval x.1 x.2]

/-- Between two rounds of the loop over the chunks: its own two blocks are m and m + 1. -/
def partsI (m l : Nat) (e n : Int) (J : (Nat → Prop) → List (Part × Value) → World → Prop) (D1 : Nat → Prop) (pre : List Nat) (X : World) : Prop :=
  ∃ (Dj : Nat → Prop) (qs : List (Part × Value)) (a' : Option Addr) (l' c' : Nat), D1 = (fun k => Dj k ∨ k = m ∨ k = m + 1) ∧ ¬ Dj m ∧ ¬ Dj (m + 1) ∧ J Dj qs X ∧ qs.length = pre.length ∧ Boxed X m 33 (.func (.yield l) #[] #[]) ∧ PA X (m + 1) false e n (pre.length : Nat) (.slice a' l' c')
def partsIx (m : Nat) (Jx : (Nat → Prop) → List (Part × Value) → World → Prop) (c : Code) (D1 : Nat → Prop) (pre : List Nat) (X : World) : Prop :=
  c = .ret ∧ ∃ (Dj : Nat → Prop) (qs : List (Part × Value)), D1 = (fun k => Dj k ∨ k = m ∨ k = m + 1) ∧ Jx Dj qs X ∧ m + 1 < X.heap.size

set_option maxRecDepth 20000 in
set_option maxHeartbeats 1000000 in
theorem parts_seq (we : World) (B1 B2 B3 bb off L cap : Nat) (e n : Int) (zs : List Nat) (ho : Octs we (.slice (some ⟨bb, off, none⟩) L cap) zs) (hL1 : 1 ≤ L) (hL : L ≤ 65000) (ht : Steps we) (W0 : World) (hb : Below we.heap.size we W0)
    (R : Nat → Prop) (hR1 : R B1) (hR2 : R B2) (hR3 : R B3) (hRb : ∀ k, k < we.heap.size → R k) (hRl : ∀ k, R k → k < W0.heap.size)
    (c1 : W0.cell? ⟨B1, 0, none⟩ = some (.int .i64 e)) (c2 : W0.cell? ⟨B2, 0, none⟩ = some (.int .i64 n)) (c3 : W0.cell? ⟨B3, 0, none⟩ = some (.slice (some ⟨bb, off, none⟩) L cap)) :
    SeqSep Tryd.prog 47 #[.pointer (some ⟨B1, 0, none⟩), .pointer (some ⟨B2, 0, none⟩), .pointer (some ⟨B3, 0, none⟩)] partEnc (fun pre x W => okPart e n zs pre x W ∧ Kept R W0 W) R (fun xs => xs.length = partsN zs.length + 1) (fun _ => True) W0 := by
  intro l J Jx D W hJ hJx hR hRD hY h0
  have hlen := ho.lenEq
  have HLEN : Hid (zs.length = L) := hlen
  have HO : Hid (Octs we (.slice (some ⟨bb, off, none⟩) L cap) zs) := ho
  have HT : Hid (Steps we) := ht
  have HJ : Hid (Local J) := hJ
  have HJx : Hid (Local Jx) := hJx
  have HY : Hid (YieldSep Tryd.prog l partEnc (fun pre x W => okPart e n zs pre x W ∧ Kept R W0 W) J Jx) := hY
  have HR : Hid (Kept R W0 W) := hR
  have HRD : Hid (∀ k, R k → ¬ D k) := hRD
  have HRb : Hid (∀ k, k < we.heap.size → R k) := hRb
  have HRl : Hid (∀ k, R k → k < W0.heap.size) := hRl
  have HR3 : Hid (R B3) := hR3
  have HB : Hid (Below we.heap.size we W0) := hb
  have HC3 : Hid (W0.cell? ⟨B3, 0, none⟩ = some (.slice (some ⟨bb, off, none⟩) L cap)) := c3
  have HH0 : Hid (J D [] W) := h0
  have hcap := ho.capLe
  have g1 : W.cell? ⟨B1, 0, none⟩ = some (.int .i64 e) := (hR.cell (p := ⟨B1, 0, none⟩) hR1).trans c1
  have g2 : W.cell? ⟨B2, 0, none⟩ = some (.int .i64 n) := (hR.cell (p := ⟨B2, 0, none⟩) hR2).trans c2
  have g3 : W.cell? ⟨B3, 0, none⟩ = some (.slice (some ⟨bb, off, none⟩) L cap) := (hR.cell (p := ⟨B3, 0, none⟩) hR3).trans c3
  have lt1 : B1 < W.heap.size := by obtain ⟨_, _, _, h⟩ := cells_of_cell g1; exact lt_of_heap h
  have lt2 : B2 < W.heap.size := by obtain ⟨_, _, _, h⟩ := cells_of_cell g2; exact lt_of_heap h
  have lt3 : B3 < W.heap.size := by obtain ⟨_, _, _, h⟩ := cells_of_cell g3; exact lt_of_heap h
  clear ho ht hJ hJx hY hR hRD hRb hRl hR3 hb c1 c2 c3 h0 hR1 hR2
  refine (callsIn_wide (n := 6)).1 (callsIn_of_wp_marks (F := Fence.wide) (n := 6) Tryd.func47 rfl trivial ?_ rfl)
  simp only [Tryd.ntmps47, List.size_toArray, List.length_cons, List.length_nil, Nat.reduceAdd, Nat.reduceSub, Array.replicate_succ, Array.replicate_zero, List.push_toArray, List.append_toArray, List.nil_append, List.cons_append]
  gi_wp2_with fail
  refine ⟨trivial, callsIn_wide.2 ((chunk_v _ _ (some ⟨bb, off, none⟩) L cap rfl 112 (by decide)).mono ?_)⟩
  rintro x V00 ⟨rfl, rfl⟩
  gi_wp2_with fail
  obtain ⟨V0, hV0⟩ : ∃ V0, V0 = (((W.alloc (.cells #[.func (.yield l) #[] #[]] 33)).alloc (.cells #[.bool false, .int .i64 e, .int .i64 n, .int .i64 0, .slice none 0 0] 24)).alloc (.cells #[.slice (some ⟨bb, off, none⟩) L cap] 22)).alloc (.cells #[.int .i64 112] 3) := ⟨_, rfl⟩
  rw [← hV0]
  have hsz0 : V0.heap.size = W.heap.size + 4 := by rw [hV0]; simp
  have HB0 : Hid (Below W.heap.size W V0) := by
    unfold Hid; rw [hV0]
    exact ((((Below.refl _ W).alloc (Nat.le_refl _) _).alloc (by simp) _).alloc (by simp <;> omega) _).alloc (by simp <;> omega) _
  have at1 : ∀ (A : World) (o : Obj) (k : Nat), k < A.heap.size → (A.alloc o).heap[k]? = A.heap[k]? := fun A o k hk => Below.heap_alloc A o k hk
  have bY0 : Boxed V0 W.heap.size 33 (.func (.yield l) #[] #[]) := by
    unfold Boxed; rw [hV0, at1 _ _ _ (by simp <;> omega), at1 _ _ _ (by simp <;> omega), at1 _ _ _ (by simp)]; exact World.alloc_heap_new W _
  have bP0 : PA V0 (W.heap.size + 1) false e n 0 (.slice none 0 0) := by
    unfold PA; rw [hV0, at1 _ _ _ (by simp <;> omega), at1 _ _ _ (by simp)]
    have := World.alloc_heap_new (W.alloc (.cells #[.func (.yield l) #[] #[]] 33)) (.cells #[.bool false, .int .i64 e, .int .i64 n, .int .i64 0, .slice none 0 0] 24)
    rwa [World.size_alloc] at this
  have bS0 : Boxed V0 (W.heap.size + 2) 22 (.slice (some ⟨bb, off, none⟩) L cap) := by
    unfold Boxed; rw [hV0, at1 _ _ _ (by simp)]
    have := World.alloc_heap_new ((W.alloc (.cells #[.func (.yield l) #[] #[]] 33)).alloc (.cells #[.bool false, .int .i64 e, .int .i64 n, .int .i64 0, .slice none 0 0] 24)) (.cells #[.slice (some ⟨bb, off, none⟩) L cap] 22)
    rwa [World.size_alloc, World.size_alloc] at this
  have bN0 : Boxed V0 (W.heap.size + 3) 3 (.int .i64 ((112 : Nat) : Int)) := by
    unfold Boxed; rw [hV0]
    have := World.alloc_heap_new (((W.alloc (.cells #[.func (.yield l) #[] #[]] 33)).alloc (.cells #[.bool false, .int .i64 e, .int .i64 n, .int .i64 0, .slice none 0 0] 24)).alloc (.cells #[.slice (some ⟨bb, off, none⟩) L cap] 22)) (.cells #[.int .i64 112] 3)
    rwa [World.size_alloc, World.size_alloc, World.size_alloc] at this
  clear hV0 at1
  have hW0W : W0.heap.size ≤ W.heap.size := HR.out.size
  have hDlt : ∀ k, D k → k < W.heap.size := HJ.out.lt _ _ _ HH0.out
  have hRV : Kept R W0 V0 := HR.out.trans (Kept.ofBelow HB0.out fun k hk => by have := HRl.out k hk; omega)
  have HIL : Hid (Local (partsI W.heap.size l e n J)) := by
    refine ⟨?_, ?_⟩
    · rintro D1 pre X ⟨Dj, qs, a', l', c', rfl, nY, nP, hj, hq, bY, bP⟩ k (hk | rfl | rfl)
      · exact HJ.out.lt _ _ _ hj k hk
      · exact bY.lt
      · exact bP.lt
    · rintro D1 pre X X' ⟨Dj, qs, a', l', c', rfl, nY, nP, hj, hq, bY, bP⟩ hk
      exact ⟨Dj, qs, a', l', c', rfl, nY, nP, HJ.out.same _ _ _ _ hj (hk.mono fun _ h => .inl h), hq, (hk.block _ (.inr (.inl rfl))).trans bY, (hk.block _ (.inr (.inr rfl))).trans bP⟩
  have HXL : Hid (∀ c : Code, Local (partsIx W.heap.size Jx c)) := by
    refine fun c => ⟨?_, ?_⟩
    · rintro D1 pre X ⟨_, Dj, qs, rfl, hj, hs⟩ k (hk | rfl | rfl)
      · exact HJx.out.lt _ _ _ hj k hk
      · omega
      · exact hs
    · rintro D1 pre X X' ⟨hc, Dj, qs, rfl, hj, hs⟩ hk
      exact ⟨hc, Dj, qs, rfl, HJx.out.same _ _ _ _ hj (hk.mono fun _ h => .inl h), Nat.lt_of_lt_of_le hs hk.size⟩
  have HKW : Hid (∀ X : World, Kept (fun k => R k ∨ k = W.heap.size + 2 ∨ k = W.heap.size + 3) V0 X → Kept R W0 X) := fun X h => hRV.trans (h.mono fun k hk => .inl hk)
  have HRn : Hid (∀ k, R k → k < W.heap.size) := fun k hk => by have := HRl.out k hk; omega
  have HR2 : Hid (∀ k, (R k ∨ k = W.heap.size + 2 ∨ k = W.heap.size + 3) → k < V0.heap.size) := fun k hk => by
    rcases hk with hk | rfl | rfl
    · have := HRn.out k hk; omega
    · omega
    · omega
  have HOX : Hid (∀ X : World, Kept R W0 X → Octs X (.slice (some ⟨bb, off, none⟩) L cap) zs ∧ Steps X) := fun X h => by
    have hbx : Below we.heap.size we X := HB.out.trans (h.below HRb.out)
    exact ⟨HO.out.kept hbx, HT.out.below hbx⟩
  refine wpIn_rangeSep (n := 6) (gf := 53) (lb := #[.pointer (some ⟨W.heap.size + 2, 0, none⟩), .pointer (some ⟨W.heap.size + 3, 0, none⟩)]) rfl (enters_of Tryd.func53 (by kernel_rfl) rfl)
    (chunk_seq (W.heap.size + 2) (W.heap.size + 3) bb off 112 L cap (some ⟨bb, off, none⟩) (by decide) (by decide) (by omega) hcap.1 (fun _ => rfl) V0 (fun k => R k ∨ k = W.heap.size + 2 ∨ k = W.heap.size + 3) (.inr (.inl rfl)) (.inr (.inr rfl)) HR2.out bS0.cell bN0.cell)
    (Kept.refl _ _) HR2.out (fun _ => rfl)
    (partsI W.heap.size l e n J)
    (partsIx W.heap.size Jx)
    HIL.out HXL.out (fun k => D k ∨ k = W.heap.size ∨ k = W.heap.size + 1)
    (fun k hk hd => by
      rcases hk with hk | hk | hk
      · have := HRn.out k hk
        rcases hd with hd | hd | hd
        · exact HRD.out k hk hd
        · omega
        · omega
      · rcases hd with hd | hd | hd
        · have := hDlt k hd; omega
        · omega
        · omega
      · rcases hd with hd | hd | hd
        · have := hDlt k hd; omega
        · omega
        · omega)
    ⟨D, [], none, 0, 0, rfl, fun h => by have := hDlt _ h; omega, fun h => by have := hDlt _ h; omega, HJ.out.same _ _ _ _ HH0.out (Kept.ofBelow HB0.out hDlt), rfl, bY0, bP0⟩ ?round ?done ?stop
  case round =>
    rintro l2 D1 pre k X hl2 hnl - ⟨Dj, qs, a', l', c', rfl, nY, nP, hj, hq, bY, bP⟩ ⟨rfl, hk2, hkR⟩
    unfold chunkV
    have hIX : Hid (W.heap.size ≤ X.heap.size) := by have := bP.lt; unfold Hid; omega
    gi_wp2
    refine ⟨Below.refl _ _, fun V hVk hVs => ?_⟩
    have nl1 : ¬ Dj l2 := fun h => hnl (.inl h)
    have nlY : W.heap.size ≠ l2 := by omega
    have nlP : W.heap.size + 1 ≠ l2 := by omega
    have bYV : Boxed V W.heap.size 33 (.func (.yield l) #[] #[]) := (hVk.block _ nlY).trans bY
    have bPV : PA V (W.heap.size + 1) false e n (pre.length : Nat) (.slice a' l' c') := (hVk.block _ nlP).trans bP
    obtain ⟨j, hj0⟩ : ∃ j, j = pre.length := ⟨_, rfl⟩
    rw [← hj0] at bPV hk2 hq ⊢
    obtain ⟨E, hE⟩ : ∃ E, E = chunkLen 112 L j := ⟨_, rfl⟩
    rw [← hE]
    obtain ⟨V1, hV1⟩ : ∃ V1, V1 = V.setCell ⟨W.heap.size + 1, 4, none⟩ (.slice (some ⟨bb, off + 112 * j, none⟩) E E) := ⟨_, rfl⟩
    have bY1 : Boxed V1 W.heap.size 33 (.func (.yield l) #[] #[]) := by rw [hV1]; exact (Below.heap_setCell _ _ _ _ (show W.heap.size ≠ W.heap.size + 1 by omega)).trans bYV
    have bP1 : PA V1 (W.heap.size + 1) false e n (j : Nat) (.slice (some ⟨bb, off + 112 * j, none⟩) E E) := by rw [hV1]; exact bPV.set4 _
    have hs1 : V1.heap.size = X.heap.size := by rw [hV1]; simp [hVs]
    have kV1 : Kept (fun k => k ≠ W.heap.size + 1) V V1 := by rw [hV1]; exact (Kept.refl _ _).setCell (p := ⟨W.heap.size + 1, 4, none⟩) (fun h => h rfl) _
    have kR : Kept R W0 V1 := ((HKW.out X hkR).trans (hVk.mono fun k hk e => by have := HRn.out k hk; omega)).trans (kV1.mono fun k hk e => by have := HRn.out k hk; omega)
    have hJ1 : J Dj qs V1 := HJ.out.same _ _ _ _ hj ((hVk.mono fun k hk e => nl1 (e ▸ hk)).trans (kV1.mono fun k hk e => nP (e ▸ hk)))
    have hoc : Octs V1 (.slice (some ⟨bb, off + 112 * j, none⟩) E E) (partOf e n zs j).data := by
      have := octs_chunk (HOX.out V1 kR).1 112 j hk2
      rw [hE]
      exact this
    obtain ⟨fn, tmps, assign, body, hy, hRd⟩ := HY.out Dj qs (partOf e n zs j, .slice (some ⟨bb, off + 112 * j, none⟩) E E) V1 hJ1 ⟨⟨hoc, .inl ⟨by rw [hq]; have := (chunks_lt (N := 112) (by decide)).1 hk2; rw [HLEN.out]; exact this, by rw [hq]⟩⟩, kR⟩ 3
    have HRd : Hid _ := hRd
    dsimp only [partEnc, pval, partOf] at hy
    have HF : Hid (j ≤ 65000) := by unfold Hid; omega
    obtain ⟨J1, hJ1e⟩ : ∃ J1, J1 = j + 1 := ⟨_, rfl⟩
    have hw1 : IntKind.i64.wrap (J1 : Nat) = (J1 : Nat) := by rw [IntKind.wrap_i64]; omega
    have hw2 : (j : Int) + 1 = (J1 : Nat) := by omega
    have HPJ : Hid ((pre ++ [j]).length = J1) := by unfold Hid; rw [List.length_append, ← hj0, hJ1e]; rfl
    have HQJ : Hid (qs.length + 1 = J1) := by unfold Hid; rw [hq, hJ1e]
    have HV1 : Hid (V1 = V.setCell ⟨W.heap.size + 1, 4, none⟩ (.slice (some ⟨bb, off + 112 * j, none⟩) E E)) := hV1
    have HKV : Hid (Kept (fun k => k ≠ W.heap.size + 1) V V1) := kV1
    have HS1 : Hid (V1.heap.size = X.heap.size) := hs1
    have HB1 : Hid (Boxed V1 W.heap.size 33 (.func (.yield l) #[] #[]) ∧ PA V1 (W.heap.size + 1) false e n (j : Nat) (.slice (some ⟨bb, off + 112 * j, none⟩) E E)) := ⟨bY1, bP1⟩
    have HN : Hid (¬ Dj W.heap.size ∧ ¬ Dj (W.heap.size + 1)) := ⟨nY, nP⟩
    have HQ : Hid (qs.length = j) := hq
    obtain ⟨q0, q1, q2, q3, q4⟩ := bPV.cells
    have f4 := bPV.frozen 4
    have cY := bYV.cell
    rw [hV1] at hy
    have HX1 : Hid (W.heap.size + 1 < X.heap.size) := bP.lt
    clear hRd hoc hJ1 kR kV1 hs1 bY1 bP1 hV1 nl1 nlY nlP bY bP hj hq nY nP hkR hE hj0 hVk hJ1e
    gi_wp2
    rw [← HV1.out]
    refine RoundIn.mono (RoundIn.into HRd.out) ?_
    rintro x W3 ⟨hs3, (⟨rfl, D2, hJ3, hg3⟩ | ⟨rfl, D2, hJ3, hg3⟩)⟩
    · have bP3 : PA W3 (W.heap.size + 1) false e n (j : Nat) (.slice (some ⟨bb, off + 112 * j, none⟩) E E) := (hs3.block _ ⟨HB1.out.2.lt, HN.out.2⟩).trans HB1.out.2
      have bY3 : Boxed W3 W.heap.size 33 (.func (.yield l) #[] #[]) := (hs3.block _ ⟨HB1.out.1.lt, HN.out.1⟩).trans HB1.out.1
      have HP3 : Hid (PA (W3.setCell ⟨W.heap.size + 1, 3, none⟩ (.int .i64 (J1 : Nat))) (W.heap.size + 1) false e n (J1 : Nat) (.slice (some ⟨bb, off + 112 * j, none⟩) E E)) := bP3.set3 _
      have HY3 : Hid (Boxed (W3.setCell ⟨W.heap.size + 1, 3, none⟩ (.int .i64 (J1 : Nat))) W.heap.size 33 (.func (.yield l) #[] #[])) := (Below.heap_setCell _ _ _ _ (show W.heap.size ≠ W.heap.size + 1 by omega)).trans bY3
      have nY2 : ¬ D2 W.heap.size := fun h => by
        rcases hg3 _ h with h | h
        · exact HN.out.1 h
        · have := HB1.out.1.lt; omega
      have nP2 : ¬ D2 (W.heap.size + 1) := fun h => by
        rcases hg3 _ h with h | h
        · exact HN.out.2 h
        · have := HB1.out.2.lt; omega
      have kW : Kept (fun k => k ≠ W.heap.size + 1) W3 (W3.setCell ⟨W.heap.size + 1, 3, none⟩ (.int .i64 (J1 : Nat))) := (Kept.refl _ _).setCell (p := ⟨W.heap.size + 1, 3, none⟩) (fun h => h rfl) _
      have HJ4 : Hid (J D2 (qs ++ [(partOf e n zs j, .slice (some ⟨bb, off + 112 * j, none⟩) E E)]) (W3.setCell ⟨W.heap.size + 1, 3, none⟩ (.int .i64 (J1 : Nat)))) := HJ.out.same _ _ _ _ hJ3 (kW.mono fun k hk e => nP2 (e ▸ hk))
      have HK4 : Hid (Kept (fun k => k < X.heap.size ∧ ¬ (Dj k ∨ k = W.heap.size ∨ k = W.heap.size + 1)) V (W3.setCell ⟨W.heap.size + 1, 3, none⟩ (.int .i64 (J1 : Nat)))) :=
        ((HKV.out.mono fun k hk e => hk.2 (.inr (.inr e))).trans (hs3.mono fun k hk => ⟨by rw [HS1.out]; exact hk.1, fun h => hk.2 (.inl h)⟩)).trans (kW.mono fun k hk e => hk.2 (.inr (.inr e)))
      have HG4 : Hid (Grew (fun k => Dj k ∨ k = W.heap.size ∨ k = W.heap.size + 1) (fun k => D2 k ∨ k = W.heap.size ∨ k = W.heap.size + 1) X.heap.size) := fun k hk => by
        rcases hk with hk | hk
        · rcases hg3 k hk with h | h
          · exact .inl (.inl h)
          · right; have := HS1.out; omega
        · exact .inl (.inr hk)
      have HN2 : Hid (¬ D2 W.heap.size ∧ ¬ D2 (W.heap.size + 1)) := ⟨nY2, nP2⟩
      obtain ⟨p0, p1, p2, p3, p4⟩ := bP3.cells
      have f3 := bP3.frozen 3
      clear hs3 hJ3 hg3 bP3 bY3 nY2 nP2 kW
      gi_wp2
      refine ⟨HK4.out, _, ⟨D2, _, some ⟨bb, off + 112 * j, none⟩, E, E, rfl, HN2.out.1, HN2.out.2, HJ4.out, ?_, HY3.out, ?_⟩, HG4.out⟩
      · rw [List.length_append, HPJ.out]; exact HQJ.out
      · rw [HPJ.out]; exact HP3.out
    · have HK4 : Hid (Kept (fun k => k < X.heap.size ∧ ¬ (Dj k ∨ k = W.heap.size ∨ k = W.heap.size + 1)) V W3) :=
        (HKV.out.mono fun k hk e => hk.2 (.inr (.inr e))).trans (hs3.mono fun k hk => ⟨by rw [HS1.out]; exact hk.1, fun h => hk.2 (.inl h)⟩)
      have HG4 : Hid (Grew (fun k => Dj k ∨ k = W.heap.size ∨ k = W.heap.size + 1) (fun k => D2 k ∨ k = W.heap.size ∨ k = W.heap.size + 1) X.heap.size) := fun k hk => by
        rcases hk with hk | hk
        · rcases hg3 k hk with h | h
          · exact .inl (.inl h)
          · right; have := HS1.out; omega
        · exact .inl (.inr hk)
      have HJ4 : Hid (Jx D2 (qs ++ [(partOf e n zs j, .slice (some ⟨bb, off + 112 * j, none⟩) E E)]) W3) := hJ3
      have HZ4 : Hid (W.heap.size + 1 < W3.heap.size) := by have h1 := hs3.size; have h2 := HS1.out; have h3 := HX1.out; unfold Hid; omega
      clear hs3 hJ3 hg3
      gi_wp2
      exact ⟨HK4.out, _, ⟨rfl, D2, _, rfl, HJ4.out, HZ4.out⟩, HG4.out⟩
  case done =>
    rintro dd D1 xs X hdd hnd hS ⟨Dj, qs, a', l', c', rfl, nY, nP, hj, hq, bY, bP⟩ hgr hsp hK
    have hXW : W.heap.size + 1 < X.heap.size := bP.lt
    have hV0X : V0.heap.size ≤ X.heap.size := hsp.size
    have hdX : dd < X.heap.size := lt_of_heap hK
    have HQK : Hid (qs.length = partsN zs.length) := by unfold Hid; rw [hq, hS, List.length_range, chunks_parts, HLEN.out]
    have HXP : Hid (xs.length = partsN zs.length) := by unfold Hid; rw [hS, List.length_range, chunks_parts, HLEN.out]
    rw [HXP.out] at bP
    have HDD : Hid (V0.heap.size ≤ dd ∧ ¬ Dj dd) := ⟨hdd, fun h => hnd (.inl h)⟩
    have HKD : Hid (X.heap[dd]? = some (.deferred (some []))) := hK
    have HRX : Hid (Kept R W0 X) := HKW.out X (hsp.mono fun k hk => ⟨HR2.out k hk, fun hd => by
      rcases hk with hk | hk | hk
      · have := HRn.out k hk
        rcases hd with hd | hd | hd
        · exact HRD.out k hk hd
        · omega
        · omega
      · rcases hd with hd | hd | hd
        · have := hDlt k hd; omega
        · omega
        · omega
      · rcases hd with hd | hd | hd
        · have := hDlt k hd; omega
        · omega
        · omega⟩)
    have HSX : Hid (Spared D W X) := (Kept.ofBelow HB0.out fun k hk => hk.1).trans (hsp.mono fun k hk => ⟨by have := hk.1; omega, fun hd => by
      have := hk.1
      rcases hd with hd | hd | hd
      · exact hk.2 hd
      · omega
      · omega⟩)
    have HGX : Hid (Grew D Dj W.heap.size) := fun k hk => by
      rcases hgr k (.inl hk) with (h | h | h) | h
      · exact .inl h
      · exact absurd (h ▸ hk) nY
      · exact absurd (h ▸ hk) nP
      · right; omega
    have HOXX := HOX.out X HRX.out
    have HN : Hid (¬ Dj W.heap.size ∧ ¬ Dj (W.heap.size + 1)) := ⟨nY, nP⟩
    have HJX : Hid (J Dj qs X) := hj
    have HBY : Hid (Boxed X W.heap.size 33 (.func (.yield l) #[] #[])) := bY
    have HBP : Hid (PA X (W.heap.size + 1) false e n (partsN zs.length : Nat) (.slice a' l' c')) := bP
    have cX : X.cell? ⟨B3, 0, none⟩ = some (.slice (some ⟨bb, off, none⟩) L cap) := (HRX.out.cell (p := ⟨B3, 0, none⟩) HR3.out).trans HC3.out
    have hsum := crcSum_lt zs HO.out.small
    have hwS : IntKind.i64.wrap (crcSum zs : Nat) = (crcSum zs : Nat) := by rw [IntKind.wrap_i64]; omega
    obtain ⟨SM, hSM⟩ : ∃ SM, SM = crcSum zs := ⟨_, rfl⟩
    have HSM : Hid (crcSum zs = SM) := hSM.symm
    rw [← hSM] at hwS
    obtain ⟨PN, hPN⟩ : ∃ PN, PN = partsN zs.length := ⟨_, rfl⟩
    rw [← hPN] at HBP
    have HPN : Hid (partsN zs.length = PN) := hPN.symm
    clear hj bY bP hS hq hgr hsp hK nY nP hSM hsum hPN hnd
    gi_wp2_with fail
    refine ⟨trivial, callsIn_wide.2 ((sum_box X X.heap.size rfl _ zs HOXX.1 HOXX.2).mono ?_)⟩
    rintro x W5 ⟨rfl, rfl⟩
    rw [HSM.out]
    gi_wp2_with fail
    refine ⟨trivial, callsIn_wide.2 ((lay_octs SM 4 _).mono ?_)⟩
    rintro x W6 ⟨u, rfl, ho6, hb6⟩
    have hbX : Below X.heap.size X W6 := ((Below.refl _ X).alloc (Nat.le_refl _) _).trans (hb6.mono (by simp))
    rw [show cl 4 8 = 4 by decide, ← HSM.out] at ho6
    obtain ⟨ua, uc, hu⟩ := ho6.shape
    subst hu
    obtain ⟨ul, hul⟩ : ∃ ul, ul = (octZ (crcSum zs : Nat) 4).length := ⟨_, rfl⟩
    rw [← hul] at ho6 ⊢
    clear hul
    have bP6 : PA W6 (W.heap.size + 1) false e n (PN : Nat) (.slice a' l' c') := HBP.out.same hbX hXW
    have bY6 : Boxed W6 W.heap.size 33 (.func (.yield l) #[] #[]) := (hbX.block _ (by omega)).trans HBY.out
    have nO6 : NoOct W6 (W.heap.size + 1) := bP6.noOct
    obtain ⟨V8, hV8⟩ : ∃ V8, V8 = (W6.setCell ⟨W.heap.size + 1, 0, none⟩ (.bool true)).setCell ⟨W.heap.size + 1, 4, none⟩ (.slice ua ul uc) := ⟨_, rfl⟩
    have on8 : Only (W.heap.size + 1) W6 V8 := by rw [hV8]; exact ((Only.refl _ _).setCell _ _).setCell _ _
    have hs8 : V8.heap.size = W6.heap.size := by rw [hV8]; simp
    have bP8 : PA V8 (W.heap.size + 1) true e n (PN : Nat) (.slice ua ul uc) := by rw [hV8]; exact (heap_set_row ((heap_set_row bP6 0 _).trans rfl) 4 _).trans rfl
    have bY8 : Boxed V8 W.heap.size 33 (.func (.yield l) #[] #[]) := (on8.heap (by have := hbX.size; omega) (by omega)).trans bY6
    have k8 : Kept (fun k => k < X.heap.size ∧ k ≠ W.heap.size + 1) X V8 := (Kept.ofBelow hbX fun k hk => hk.1).trans (Kept.mono on8 fun k hk => ⟨by have := hbX.size; have := hk.1; omega, hk.2⟩)
    have hJ8 : J Dj qs V8 := HJ.out.same _ _ _ _ HJX.out (k8.mono fun k hk => ⟨HJ.out.lt _ _ _ HJX.out k hk, fun e => HN.out.2 (e ▸ hk)⟩)
    have hR8 : Kept R W0 V8 := HRX.out.trans (k8.mono fun k hk => by have := HRn.out k hk; exact ⟨by omega, by omega⟩)
    have ho8 : Octs V8 (.slice ua ul uc) (footOf e n zs).data := ho6.only nO6 on8
    obtain ⟨fn, tmps, assign, body, hy, hRd⟩ := HY.out Dj qs (footOf e n zs, .slice ua ul uc) V8 hJ8 ⟨⟨ho8, .inr ⟨HQK.out, rfl⟩⟩, hR8⟩ 5
    have HRd : Hid _ := hRd
    dsimp only [partEnc, pval, footOf] at hy
    rw [HPN.out] at hy
    have HK8 : Hid (X.heap.size ≤ V8.heap.size ∧ Kept (fun k => k < X.heap.size ∧ k ≠ W.heap.size + 1) X V8) := ⟨by have := hbX.size; omega, k8⟩
    have HV8 : Hid (V8 = (W6.setCell ⟨W.heap.size + 1, 0, none⟩ (.bool true)).setCell ⟨W.heap.size + 1, 4, none⟩ (.slice ua ul uc)) := hV8
    obtain ⟨q0, q1, q2, q3, q4⟩ := bP6.cells
    have f0 := bP6.frozen 0
    have f4 := bP6.frozen 4
    have cY := bY6.cell
    rw [hV8] at hy
    clear hRd ho8 hR8 hJ8 k8 bY8 bP8 hs8 on8 hV8 nO6 bY6 bP6 ho6 hb6 hbX cX HOXX
    gi_wp2
    rw [← HV8.out]
    refine RoundIn.mono (RoundIn.any HRd.out) ?_
    have HEND : Hid (∀ (D2 : Nat → Prop) (W9 : World), Spared Dj V8 W9 → Grew Dj D2 V8.heap.size → W9.heap[dd]? = some (.deferred (some [])) ∧ ¬ D2 dd ∧ Spared D W (W9.putObj dd (.deferred none)) ∧ Grew D D2 W.heap.size) := fun D2 W9 hs9 hg9 => by
      have hd8 : V8.heap[dd]? = some (.deferred (some [])) := (HK8.out.2.block dd ⟨hdX, by have := HDD.out.1; omega⟩).trans HKD.out
      have hdlt : dd < V8.heap.size := lt_of_heap hd8
      have hd9 : W9.heap[dd]? = some (.deferred (some [])) := (hs9.block dd ⟨hdlt, HDD.out.2⟩).trans hd8
      have k1 : Spared D W V8 := Kept.trans HSX.out (HK8.out.2.mono fun k hk => ⟨by have := hk.1; omega, by have := hk.1; omega⟩)
      refine ⟨hd9, fun h => ?_, ?_, HGX.out.trans hg9 (by have := HK8.out.1; omega)⟩
      · rcases hg9 dd h with h | h
        · exact HDD.out.2 h
        · omega
      · exact Kept.trans (Spared.trans k1 (HGX.out) hs9) (Kept.putObj _ _ _ _ (fun h => by have := h.1; have := HDD.out.1; omega) (fun k hk => by have := hk.1; have := hs9.size; have := HK8.out.1; omega))
    rintro x W9 ⟨hs9, (⟨rfl, D2, hJ9, hg9⟩ | ⟨rfl, D2, hJ9, hg9⟩)⟩
    · obtain ⟨e1, e2, e3, e4⟩ := HEND.out D2 W9 hs9 hg9
      have HJ9 : Hid (J D2 (qs ++ [(footOf e n zs, .slice ua ul uc)]) (W9.putObj dd (.deferred none))) := HJ.out.same _ _ _ _ hJ9 (Kept.putObj _ _ _ _ e2 (HJ.out.lt _ _ _ hJ9))
      have HE : Hid (Spared D W (W9.putObj dd (.deferred none)) ∧ Grew D D2 W.heap.size) := ⟨e3, e4⟩
      clear hs9 hg9 hJ9 e2 e3 e4 HEND
      gi_wp2
      refine ⟨by simp, .inl ⟨_, _, rfl, run_takeDeferred e1, ?_⟩⟩
      exact ⟨_, results_none rfl _ _ _, ⟨_, rfl⟩, HE.out.1, .inl ⟨_, D2, by rw [List.length_append, HQK.out]; rfl, HJ9.out, HE.out.2⟩⟩
    · obtain ⟨e1, e2, e3, e4⟩ := HEND.out D2 W9 hs9 hg9
      have HJ9 : Hid (Jx D2 (qs ++ [(footOf e n zs, .slice ua ul uc)]) (W9.putObj dd (.deferred none))) := HJx.out.same _ _ _ _ hJ9 (Kept.putObj _ _ _ _ e2 (HJx.out.lt _ _ _ hJ9))
      have HE : Hid (Spared D W (W9.putObj dd (.deferred none)) ∧ Grew D D2 W.heap.size) := ⟨e3, e4⟩
      clear hs9 hg9 hJ9 e2 e3 e4 HEND
      gi_wp2
      refine ⟨by simp, .inl ⟨_, _, rfl, run_takeDeferred e1, ?_⟩⟩
      exact ⟨_, results_none rfl _ _ _, ⟨_, rfl⟩, HE.out.1, .inr ⟨_, D2, trivial, HJ9.out, HE.out.2⟩⟩
  case stop =>
    rintro dd c D1 pre X hdd hnd _ ⟨rfl, Dj, qs, rfl, hj, hs⟩ hgr hsp hK
    have hdX : dd < X.heap.size := lt_of_heap hK
    have HE : Hid (Spared D W (X.putObj dd (.deferred none)) ∧ Grew D Dj W.heap.size ∧ Jx Dj qs (X.putObj dd (.deferred none))) := by
      refine ⟨?_, fun k hk => ?_, ?_⟩
      · have k1 : Spared D W X := (Kept.ofBelow HB0.out fun k hk => hk.1).trans (hsp.mono fun k hk => ⟨by have := hk.1; omega, fun hd => by
          have := hk.1
          rcases hd with hd | hd | hd
          · exact hk.2 hd
          · omega
          · omega⟩)
        exact Kept.trans k1 (Kept.putObj _ _ _ _ (fun h => by have := h.1; omega) (fun k hk => by have := hk.1; have := hsp.size; omega))
      · rcases hgr k (.inl hk) with (h | h | h) | h
        · exact .inl h
        · right; omega
        · right; omega
        · right; omega
      · exact HJx.out.same _ _ _ _ hj (Kept.putObj _ _ _ _ (fun h => hnd (.inl h)) (HJx.out.lt _ _ _ hj))
    clear hj hgr hsp hnd
    gi_wp2
    refine ⟨by simp, .inl ⟨_, _, rfl, run_takeDeferred hK, ?_⟩⟩
    exact ⟨_, results_none rfl _ _ _, ⟨_, rfl⟩, HE.out.1, .inr ⟨_, Dj, trivial, HE.out.2.2, HE.out.2.1⟩⟩
end Go.Proofs.YtndeknkfljnjoaaDoor

/- What the program's Join collects, held against the document's Join, in plain numbers. -/
namespace Go.Proofs.YtndeknkfljnjoaaDoor
open Go.RowKit
set_option linter.unusedVariables false

/-- The j-th sector is a part's, and no foot. -/
def goes6 (b : List Nat) (j : Nat) : Prop := 128 * j < b.length ∧ ∃ q, getP (secAt6 b j) = some q ∧ q.foot = false
/-- The octets of the first j of them. -/
def payN (b : List Nat) : Nat → List Nat
  | 0 => []
  | j + 1 => payN b j ++ dataP (getP (secAt6 b j))
theorem dataP_length (zs : List Nat) : (dataP (getP zs)).length ≤ 112 := by
  cases h : getP zs with
  | none => show ([] : List Nat).length ≤ 112; decide
  | some q => exact (okP_right.1 (getP_some h).1).data
theorem payN_length (b : List Nat) (j : Nat) : (payN b j).length ≤ 112 * j := by
  induction j with
  | zero => exact Nat.le_refl _
  | succ j ih => rw [payN, List.length_append]; have := dataP_length (secAt6 b j); omega
theorem dataP_small {zs : List Nat} (h : ∀ z ∈ zs, z < 256) : ∀ z ∈ dataP (getP zs), z < 256 := by
  cases hg : getP zs with
  | none => intro z hz; cases hz
  | some q =>
    intro z hz
    rw [(getP_some hg).2.2.1] at hz
    exact readP_small h z hz
theorem payN_small {b : List Nat} (h : ∀ z ∈ b, z < 256) (j : Nat) : ∀ z ∈ payN b j, z < 256 := by
  induction j with
  | zero => intro z hz; cases hz
  | succ j ih => exact app_small ih (dataP_small (small_part h _ _))
theorem joinL_some (b : List Nat) (e n : Int) : ∀ (f i : Nat) (p : List Nat) (k : Nat), joinL b e n f i (payN b i) = some (p, k) →
    ∃ j, i ≤ j ∧ k = j + 1 ∧ p = payN b j ∧ (∀ x, i ≤ x → x < j → goes6 b x) ∧ ¬ goes6 b j ∧ 0 < sectorsN p.length ∧ cutS e n p = b.take (128 * j + 128) ∧ fitP e n i (getP (secAt6 b i)) = true := by
  intro f
  induction f with
  | zero => intro i p k h; cases h
  | succ f ih =>
    intro i p k h
    have h' : (if 128 * i + 128 ≤ b.length then
      (if fitP e n i (getP (secAt6 b i)) = true then
        (if footP (getP (secAt6 b i)) = true then (if 0 < sectorsN (payN b i).length ∧ cutS e n (payN b i) = b.take (128 * i + 128) then some (payN b i, i + 1) else none)
         else joinL b e n f (i + 1) (payN b i ++ dataP (getP (secAt6 b i))))
       else none)
    else none) = some (p, k) := h
    split at h'
    · rename_i hb
      split at h'
      · rename_i hf
        split at h'
        · rename_i hft
          split at h'
          · rename_i hc
            simp only [Option.some.injEq, Prod.mk.injEq] at h'
            obtain ⟨rfl, rfl⟩ := h'
            refine ⟨i, Nat.le_refl _, rfl, rfl, fun x h1 h2 => by omega, ?_, hc.1, hc.2, hf⟩
            rintro ⟨-, q, hq, hqf⟩
            rw [hq] at hft
            have : q.foot = true := hft
            rw [hqf] at this
            cases this
          · cases h'
        · rename_i hft
          obtain ⟨j, h1, h2, h3, h4, h5, h6, h7, h8⟩ := ih (i + 1) p k h'
          refine ⟨j, by omega, h2, h3, fun x hx1 hx2 => ?_, h5, h6, h7, hf⟩
          by_cases hx : x = i
          · subst hx
            refine ⟨by omega, ?_⟩
            cases hg : getP (secAt6 b x) with
            | none => rw [hg] at hf; cases hf
            | some q =>
              rw [hg] at hft
              refine ⟨q, rfl, ?_⟩
              have : ¬ q.foot = true := hft
              simpa using this
          · exact h4 x (by omega) hx2
      · cases h'
    · cases h'
theorem fit_ok {e n : Int} {i : Nat} {zs : List Nat} (h : fitP e n i (getP zs) = true) : okId e n = true := by
  cases hg : getP zs with
  | none => rw [hg] at h; cases h
  | some q =>
    rw [hg] at h
    have h' : (decide (q.epoch = e) && (decide (q.number = n) && decide (q.index = (i : Nat)))) = true := h
    simp only [Bool.and_eq_true, decide_eq_true_eq] at h'
    have := okP_right.1 (getP_some hg).1
    rw [okId_right, ← h'.1, ← h'.2.1]
    exact ⟨this.epoch, this.number⟩
/-- The program's way to the document's answer. -/
theorem join_prog (b : List Nat) (e n : Int) (k : Nat) (hk : ∀ j, j < k → goes6 b j) (hn : ¬ goes6 b k) :
    joinS b e n = if okId e n = true ∧ (1 ≤ (payN b k).length ∧ (payN b k).length ≤ 65000) ∧ isPre (cutS e n (payN b k)) b = true then some (payN b k, partsN (payN b k).length + 1) else none := by
  split
  · rename_i h
    obtain ⟨h1, ⟨h2, h3⟩, h4⟩ := h
    have h5 : b.take (cutS e n (payN b k)).length = cutS e n (payN b k) := of_decide_eq_true h4
    have hb : b = cutS e n (payN b k) ++ b.drop (cutS e n (payN b k)).length := by
      have := (List.take_append_drop (cutS e n (payN b k)).length b).symm
      rwa [h5] at this
    generalize payN b k = p at *
    rw [hb]
    exact join_cut h1 p h2 h3 _
  · rename_i h
    cases hj : joinS b e n with
    | none => rfl
    | some x =>
      obtain ⟨p, m⟩ := x
      exfalso
      obtain ⟨j, -, h2, h3, h4, h5, h6, h7, h8⟩ := joinL_some b e n _ 0 p m hj
      have hjk : j = k := by
        rcases Nat.lt_trichotomy j k with hlt | rfl | hgt
        · exact absurd (hk j hlt) h5
        · rfl
        · exact absurd (h4 k (by omega) hgt) hn
      subst hjk
      subst h3
      refine h ⟨fit_ok h8, sectorsN_pos h6, ?_⟩
      have hl : (cutS e n (payN b j)).length ≤ 128 * j + 128 := by rw [h7, List.length_take]; omega
      refine decide_eq_true ?_
      rw [h7, List.length_take, ← List.take_take, List.take_length]
theorem joinK_prog (e n : Int) (p : List Nat) : ((cutS e n p).length : Int) / 128 = ((partsN p.length + 1 : Nat) : Int) := by
  rw [cutS_length]; omega
end Go.Proofs.YtndeknkfljnjoaaDoor

/- Contract of the iterator 'pieces': the octets of the parts at the beginning, by footprints. -/
namespace Go.Proofs.YtndeknkfljnjoaaDoor
open Go.RowKit Go.Shelf
set_option linter.unusedVariables false
attribute [local go_sem] Oper.semAt_some

theorem pieces_v (w : World) (v : Value) (a : Option Addr) (len cap : Nat) (hv : v = .slice a len cap) :
    Calls Tryd.prog 35 #[v] w fun x w' => x = .returned (.func (.func 50) #[] #[.pointer (some ⟨w.heap.size, 0, none⟩)]) ∧ w' = w.alloc (.cells #[v] 22) := by
  subst hv
  have hmf : ∀ (fn : Fn) (first cap : Array Value) (w : World), (Instr.makeFunc fn first cap).run Tryd.prog w = .ok (.func fn first cap) w := fun _ _ _ _ => rfl
  go_enter Tryd.func35, Tryd.ntmps35
  go_wp2
  go_ret
  exact ⟨rfl, rfl⟩

/-- What a round of pieces is handed. -/
def okPiece (zs : List Nat) (pre : List Value) (x : Value) (W : World) : Prop :=
  Octs W x (dataP (getP (secAt6 zs pre.length))) ∧ ∀ j, j ≤ pre.length → goes6 zs j
def endPiece (zs : List Nat) (xs : List Value) : Prop := (∀ j, j < xs.length → goes6 zs j) ∧ ¬ goes6 zs xs.length

/-- Between two rounds of the loop over the chunks: its own block is m. -/
def piecesI (m l : Nat) (zs : List Nat) (J : (Nat → Prop) → List Value → World → Prop) (D1 : Nat → Prop) (pre : List Nat) (X : World) : Prop :=
  ∃ (Dj : Nat → Prop) (qs : List Value), D1 = (fun k => Dj k ∨ k = m) ∧ ¬ Dj m ∧ J Dj qs X ∧ qs.length = pre.length ∧ (∀ j, j < pre.length → goes6 zs j) ∧ Boxed X m 81 (.func (.yield l) #[] #[])
def piecesIx (m : Nat) (zs : List Nat) (J Jx : (Nat → Prop) → List Value → World → Prop) (c : Code) (D1 : Nat → Prop) (pre : List Nat) (X : World) : Prop :=
  c = .ret ∧ ∃ (Dj : Nat → Prop) (qs : List Value), D1 = (fun k => Dj k ∨ k = m) ∧ ¬ Dj m ∧ m < X.heap.size ∧ ((J Dj qs X ∧ endPiece zs qs) ∨ Jx Dj qs X)

set_option maxRecDepth 20000 in
set_option maxHeartbeats 1000000 in
theorem pieces_seq (we : World) (B1 bb off L cap : Nat) (a : Option Addr) (ha : 0 < L → a = some ⟨bb, off, none⟩) (zs : List Nat) (ho : Octs we (.slice a L cap) zs) (hL : L ≤ 100000) (ht : Steps we) (W0 : World) (hb : Below we.heap.size we W0)
    (R : Nat → Prop) (hR1 : R B1) (hRb : ∀ k, k < we.heap.size → R k) (hRl : ∀ k, R k → k < W0.heap.size)
    (c1 : W0.cell? ⟨B1, 0, none⟩ = some (.slice a L cap)) :
    SeqSep Tryd.prog 50 #[.pointer (some ⟨B1, 0, none⟩)] (fun x => #[x]) (fun pre x W => okPiece zs pre x W ∧ Kept R W0 W) R (endPiece zs) (fun _ => True) W0 := by
  intro l J Jx D W hJ hJx hR hRD hY h0
  have hlen := ho.lenEq
  have HLEN : Hid (zs.length = L) := hlen
  have HO : Hid (Octs we (.slice a L cap) zs) := ho
  have HT : Hid (Steps we) := ht
  have HJ : Hid (Local J) := hJ
  have HJx : Hid (Local Jx) := hJx
  have HY : Hid (YieldSep Tryd.prog l (fun x => #[x]) (fun pre x W => okPiece zs pre x W ∧ Kept R W0 W) J Jx) := hY
  have HR : Hid (Kept R W0 W) := hR
  have HRD : Hid (∀ k, R k → ¬ D k) := hRD
  have HRb : Hid (∀ k, k < we.heap.size → R k) := hRb
  have HRl : Hid (∀ k, R k → k < W0.heap.size) := hRl
  have HB : Hid (Below we.heap.size we W0) := hb
  have HH0 : Hid (J D [] W) := h0
  have hcap := ho.capLe
  have g1 : W.cell? ⟨B1, 0, none⟩ = some (.slice a L cap) := (hR.cell (p := ⟨B1, 0, none⟩) hR1).trans c1
  have lt1 : B1 < W.heap.size := by obtain ⟨_, _, _, h⟩ := cells_of_cell g1; exact lt_of_heap h
  clear ho ht hJ hJx hY hR hRD hRb hRl hb c1 h0 hR1
  refine (callsIn_wide (n := 6)).1 (callsIn_of_wp_marks (F := Fence.wide) (n := 6) Tryd.func50 rfl trivial ?_ rfl)
  simp only [Tryd.ntmps50, List.size_toArray, List.length_cons, List.length_nil, Nat.reduceAdd, Nat.reduceSub, Array.replicate_succ, Array.replicate_zero, List.push_toArray, List.append_toArray, List.nil_append, List.cons_append]
  gi_wp2_with fail
  refine ⟨trivial, callsIn_wide.2 ((chunk_v _ _ a L cap rfl 128 (by decide)).mono ?_)⟩
  rintro x V00 ⟨rfl, rfl⟩
  gi_wp2_with fail
  obtain ⟨V0, hV0⟩ : ∃ V0, V0 = ((W.alloc (.cells #[.func (.yield l) #[] #[]] 81)).alloc (.cells #[.slice a L cap] 22)).alloc (.cells #[.int .i64 128] 3) := ⟨_, rfl⟩
  rw [← hV0]
  have hsz0 : V0.heap.size = W.heap.size + 3 := by rw [hV0]; simp
  have HB0 : Hid (Below W.heap.size W V0) := by
    unfold Hid; rw [hV0]
    exact (((Below.refl _ W).alloc (Nat.le_refl _) _).alloc (by simp) _).alloc (by simp <;> omega) _
  have at1 : ∀ (A : World) (o : Obj) (k : Nat), k < A.heap.size → (A.alloc o).heap[k]? = A.heap[k]? := fun A o k hk => Below.heap_alloc A o k hk
  have bY0 : Boxed V0 W.heap.size 81 (.func (.yield l) #[] #[]) := by
    unfold Boxed; rw [hV0, at1 _ _ _ (by simp <;> omega), at1 _ _ _ (by simp)]; exact World.alloc_heap_new W _
  have bS0 : Boxed V0 (W.heap.size + 1) 22 (.slice a L cap) := by
    unfold Boxed; rw [hV0, at1 _ _ _ (by simp)]
    have := World.alloc_heap_new (W.alloc (.cells #[.func (.yield l) #[] #[]] 81)) (.cells #[.slice a L cap] 22)
    rwa [World.size_alloc] at this
  have bN0 : Boxed V0 (W.heap.size + 2) 3 (.int .i64 ((128 : Nat) : Int)) := by
    unfold Boxed; rw [hV0]
    have := World.alloc_heap_new ((W.alloc (.cells #[.func (.yield l) #[] #[]] 81)).alloc (.cells #[.slice a L cap] 22)) (.cells #[.int .i64 128] 3)
    rwa [World.size_alloc, World.size_alloc] at this
  clear hV0 at1
  have hW0W : W0.heap.size ≤ W.heap.size := HR.out.size
  have hDlt : ∀ k, D k → k < W.heap.size := HJ.out.lt _ _ _ HH0.out
  have hRV : Kept R W0 V0 := HR.out.trans (Kept.ofBelow HB0.out fun k hk => by have := HRl.out k hk; omega)
  have HIL : Hid (Local (piecesI W.heap.size l zs J)) := by
    refine ⟨?_, ?_⟩
    · rintro D1 pre X ⟨Dj, qs, rfl, nY, hj, hq, hg, bY⟩ k (hk | rfl)
      · exact HJ.out.lt _ _ _ hj k hk
      · exact bY.lt
    · rintro D1 pre X X' ⟨Dj, qs, rfl, nY, hj, hq, hg, bY⟩ hk
      exact ⟨Dj, qs, rfl, nY, HJ.out.same _ _ _ _ hj (hk.mono fun _ h => .inl h), hq, hg, (hk.block _ (.inr rfl)).trans bY⟩
  have HXL : Hid (∀ c : Code, Local (piecesIx W.heap.size zs J Jx c)) := by
    refine fun c => ⟨?_, ?_⟩
    · rintro D1 pre X ⟨_, Dj, qs, rfl, nY, hs, hj⟩ k (hk | rfl)
      · rcases hj with hj | hj
        · exact HJ.out.lt _ _ _ hj.1 k hk
        · exact HJx.out.lt _ _ _ hj k hk
      · exact hs
    · rintro D1 pre X X' ⟨hc, Dj, qs, rfl, nY, hs, hj⟩ hk
      refine ⟨hc, Dj, qs, rfl, nY, Nat.lt_of_lt_of_le hs hk.size, ?_⟩
      rcases hj with hj | hj
      · exact .inl ⟨HJ.out.same _ _ _ _ hj.1 (hk.mono fun _ h => .inl h), hj.2⟩
      · exact .inr (HJx.out.same _ _ _ _ hj (hk.mono fun _ h => .inl h))
  have HKW : Hid (∀ X : World, Kept (fun k => R k ∨ k = W.heap.size + 1 ∨ k = W.heap.size + 2) V0 X → Kept R W0 X) := fun X h => hRV.trans (h.mono fun k hk => .inl hk)
  have HRn : Hid (∀ k, R k → k < W.heap.size) := fun k hk => by have := HRl.out k hk; omega
  have HR2 : Hid (∀ k, (R k ∨ k = W.heap.size + 1 ∨ k = W.heap.size + 2) → k < V0.heap.size) := fun k hk => by
    rcases hk with hk | rfl | rfl
    · have := HRn.out k hk; omega
    · omega
    · omega
  have HOX : Hid (∀ X : World, Kept R W0 X → Octs X (.slice a L cap) zs ∧ Steps X) := fun X h => by
    have hbx : Below we.heap.size we X := HB.out.trans (h.below HRb.out)
    exact ⟨HO.out.kept hbx, HT.out.below hbx⟩
  refine wpIn_rangeSep (n := 6) (gf := 53) (lb := #[.pointer (some ⟨W.heap.size + 1, 0, none⟩), .pointer (some ⟨W.heap.size + 2, 0, none⟩)]) rfl (enters_of Tryd.func53 (by kernel_rfl) rfl)
    (chunk_seq (W.heap.size + 1) (W.heap.size + 2) bb off 128 L cap a (by decide) (by decide) (by omega) hcap.1 ha V0 (fun k => R k ∨ k = W.heap.size + 1 ∨ k = W.heap.size + 2) (.inr (.inl rfl)) (.inr (.inr rfl)) HR2.out bS0.cell bN0.cell)
    (Kept.refl _ _) HR2.out (fun _ => rfl)
    (piecesI W.heap.size l zs J)
    (piecesIx W.heap.size zs J Jx)
    HIL.out HXL.out (fun k => D k ∨ k = W.heap.size)
    (fun k hk hd => by
      rcases hk with hk | hk | hk
      · have := HRn.out k hk
        rcases hd with hd | hd
        · exact HRD.out k hk hd
        · omega
      · rcases hd with hd | hd
        · have := hDlt k hd; omega
        · omega
      · rcases hd with hd | hd
        · have := hDlt k hd; omega
        · omega)
    ⟨D, [], rfl, fun h => by have := hDlt _ h; omega, HJ.out.same _ _ _ _ HH0.out (Kept.ofBelow HB0.out hDlt), rfl, fun j hj => by simp at hj, bY0⟩ ?round ?done ?stop
  case round =>
    rintro l2 D1 pre k X hl2 hnl hlo ⟨Dj, qs, rfl, nY, hj, hq, hg, bY⟩ ⟨rfl, hk2, hkR⟩
    unfold chunkV
    obtain rfl := ha (by omega)
    gi_wp2
    refine ⟨Below.refl _ _, fun V hVk hVs => ?_⟩
    have nl1 : ¬ Dj l2 := fun h => hnl (.inl h)
    have nlY : W.heap.size ≠ l2 := by omega
    have bYV : Boxed V W.heap.size 81 (.func (.yield l) #[] #[]) := (hVk.block _ nlY).trans bY
    obtain ⟨j, hj0⟩ : ∃ j, j = pre.length := ⟨_, rfl⟩
    rw [← hj0] at hk2 hq hg ⊢
    have kR : Kept R W0 V := (HKW.out X hkR).trans (hVk.mono fun k hk e => by have := HRn.out k hk; omega)
    have hJV : J Dj qs V := HJ.out.same _ _ _ _ hj (hVk.mono fun k hk e => nl1 (e ▸ hk))
    have hoc : Octs V (.slice (some ⟨bb, off + 128 * j, none⟩) (chunkLen 128 L j) (chunkLen 128 L j)) (secAt6 zs j) := octs_chunk (HOX.out V kR).1 128 j hk2
    obtain ⟨E, hE⟩ : ∃ E, E = chunkLen 128 L j := ⟨_, rfl⟩
    rw [← hE] at hoc ⊢
    have HOC : Hid (Octs V (.slice (some ⟨bb, off + 128 * j, none⟩) E E) (secAt6 zs j) ∧ Steps V) := ⟨hoc, (HOX.out V kR).2⟩
    have HVX : Hid (V.heap.size = X.heap.size) := hVs
    have HBV : Hid (Boxed V W.heap.size 81 (.func (.yield l) #[] #[])) := bYV
    have HJV : Hid (J Dj qs V) := hJV
    have HN : Hid (¬ Dj W.heap.size) := nY
    have HQ : Hid (qs.length = j) := hq
    have HG : Hid (∀ i, i < j → goes6 zs i) := hg
    have HK : Hid (128 * j < zs.length) := by unfold Hid; rw [HLEN.out]; exact hk2
    have HKR : Hid (Kept R W0 V) := kR
    have HPJ : Hid ((pre ++ [j]).length = j + 1) := by unfold Hid; rw [List.length_append, ← hj0]; rfl
    clear hE hoc hVs bYV hJV nY hq hg hk2 kR nl1 nlY hj hkR bY hj0 hVk
    gi_wp2_with fail
    refine ⟨trivial, CallsIn.inRound l2 (callsIn_wide.2 ((get6 _ _ V HOC.out.1 HOC.out.2).mono ?_))⟩
    rintro x W3 ⟨u, rfl, hu, hb3⟩
    have HNG : Hid (∀ o, getP (secAt6 zs j) = o → (∀ q, o = some q → q.foot = true) → endPiece zs qs) := fun o ho hf => by
      refine ⟨by rw [HQ.out]; exact HG.out, ?_⟩
      rw [HQ.out]
      rintro ⟨-, q, hq, hqf⟩
      have := hf q (ho ▸ hq)
      rw [hqf] at this
      cases this
    have HSTOP : Hid (∀ (vs : Array Value), endPiece zs qs → Kept (fun k => k < X.heap.size ∧ ¬ (Dj k ∨ k = W.heap.size)) V (W3.alloc (.cells vs 24)) ∧ ∃ D', piecesIx W.heap.size zs J Jx .ret D' (pre ++ [j]) (W3.alloc (.cells vs 24)) ∧ Grew (fun k => Dj k ∨ k = W.heap.size) D' X.heap.size) := fun vs he => by
      have hb4 : Below V.heap.size V (W3.alloc (.cells vs 24)) := hb3.alloc hb3.size _
      refine ⟨Kept.ofBelow hb4 fun k hk => by have := hk.1; have := HVX.out; omega, _, ⟨rfl, Dj, qs, rfl, HN.out, ?_, .inl ⟨?_, he⟩⟩, Grew.refl _ _⟩
      · have h1 := HBV.out.lt; have h2 := hb4.size; omega
      · exact HJ.out.same _ _ _ _ HJV.out (Kept.ofBelow hb4 fun k hk => HJ.out.lt _ _ _ HJV.out k hk)
    have HB3 : Hid (Below V.heap.size V W3) := hb3
    have hp := HNG.out
    unfold gotV pval
    cases hgp : getP (secAt6 zs j) with
    | none =>
      have HE : Hid (endPiece zs qs) := HNG.out none hgp (fun q hq => by cases hq)
      rw [hgp] at hu
      obtain ⟨ua, uc, hush⟩ := hu.shape
      have hush' : u = .slice ua 0 uc := hush
      subst hush'
      clear hu hush hb3 hgp hp HNG
      dsimp only [Option.getD_none, Part.zero, Option.isSome_none]
      gi_wp2
      refine ⟨(fun f hf => (by cases hf)), ?_⟩
      gi_wp2
      exact HSTOP.out _ HE.out
    | some q =>
      obtain ⟨f, qe, qn, qi, d⟩ := q
      rw [hgp] at hu
      obtain ⟨ua, uc, hush⟩ := hu.shape
      have hush' : u = .slice ua d.length uc := hush
      subst hush'
      have hu' : Octs W3 (.slice ua d.length uc) d := hu
      dsimp only [Option.getD_some, Option.isSome_some]
      cases f with
      | true =>
        have HE : Hid (endPiece zs qs) := HNG.out _ hgp (fun q hq => by cases hq; rfl)
        clear hu hu' hush hb3 hgp hp HNG
        gi_wp2
        refine ⟨(fun f hf => (by cases hf)), ?_⟩
        gi_wp2
        exact HSTOP.out _ HE.out
      | false =>
        obtain ⟨V4, hV4⟩ : ∃ V4, V4 = W3.alloc (.cells #[.bool false, .int .i64 qe, .int .i64 qn, .int .i64 qi, .slice ua d.length uc] 24) := ⟨_, rfl⟩
        have hb4 : Below V.heap.size V V4 := by rw [hV4]; exact hb3.alloc hb3.size _
        have bY4 : Boxed V4 W.heap.size 81 (.func (.yield l) #[] #[]) := (hb4.block _ HBV.out.lt).trans HBV.out
        have hJ4 : J Dj qs V4 := HJ.out.same _ _ _ _ HJV.out (Kept.ofBelow hb4 fun k hk => HJ.out.lt _ _ _ HJV.out k hk)
        have hR4 : Kept R W0 V4 := HKR.out.trans (Kept.ofBelow hb4 fun k hk => by have h1 := HRl.out k hk; have h2 := HKR.out.size; omega)
        have hgo : ∀ i, i < j + 1 → goes6 zs i := fun i hi => by
          by_cases h : i = j
          · subst h; exact ⟨HK.out, _, hgp, rfl⟩
          · exact HG.out i (by omega)
        have ho4 : Octs V4 (.slice ua d.length uc) d := by rw [hV4]; exact hu'.alloc _
        obtain ⟨fn, tmps, assign, body, hy, hRd⟩ := HY.out Dj qs (.slice ua d.length uc) V4 hJ4 ⟨⟨by rw [HQ.out, hgp]; exact ho4, fun i hi => hgo i (by have := HQ.out; omega)⟩, hR4⟩ 3
        have HRd : Hid _ := hRd
        have HGO : Hid (∀ i, i < j + 1 → goes6 zs i) := hgo
        have HV4 : Hid (V4 = W3.alloc (.cells #[.bool false, .int .i64 qe, .int .i64 qn, .int .i64 qi, .slice ua d.length uc] 24)) := hV4
        have HB4 : Hid (Below V.heap.size V V4) := hb4
        have HY4 : Hid (Boxed V4 W.heap.size 81 (.func (.yield l) #[] #[])) := bY4
        have cY : W3.cell? ⟨W.heap.size, 0, none⟩ = some (.func (.yield l) #[] #[]) := ((hb3.cell (p := ⟨W.heap.size, 0, none⟩) HBV.out.lt).trans HBV.out.cell)
        have cY4 : (W3.alloc (.cells #[.bool false, .int .i64 qe, .int .i64 qn, .int .i64 qi, .slice ua d.length uc] 24)).cell? ⟨W.heap.size, 0, none⟩ = some (.func (.yield l) #[] #[]) := by rw [← hV4]; exact bY4.cell
        rw [hV4] at hy
        have hd0 := hu'.len
        clear hRd hgo hV4 hb4 bY4 hJ4 hR4 ho4 hu hu' hush hb3 hgp hp HNG HSTOP
        gi_wp2
        rw [← HV4.out]
        refine RoundIn.mono (RoundIn.into HRd.out) ?_
        rintro x W5 ⟨hs5, (⟨rfl, D2, hJ5, hg5⟩ | ⟨rfl, D2, hJ5, hg5⟩)⟩
        · have hm4 : W.heap.size < V4.heap.size := HY4.out.lt
          have bY5 : Boxed W5 W.heap.size 81 (.func (.yield l) #[] #[]) := (hs5.block _ ⟨hm4, HN.out⟩).trans HY4.out
          have nY2 : ¬ D2 W.heap.size := fun h => by
            rcases hg5 _ h with h | h
            · exact HN.out h
            · omega
          have HFIN : Hid (Kept (fun k => k < X.heap.size ∧ ¬ (Dj k ∨ k = W.heap.size)) V W5 ∧ ∃ D', piecesI W.heap.size l zs J D' (pre ++ [j]) W5 ∧ Grew (fun k => Dj k ∨ k = W.heap.size) D' X.heap.size) := by
            refine ⟨(Kept.ofBelow HB4.out fun k hk => by have := hk.1; have := HVX.out; omega).trans (hs5.mono fun k hk => ⟨by have h1 := hk.1; have h2 := HVX.out; have h3 := HB4.out.size; omega, fun h => hk.2 (.inl h)⟩), fun k => D2 k ∨ k = W.heap.size, ⟨D2, _, rfl, nY2, hJ5, ?_, ?_, bY5⟩, fun k hk => ?_⟩
            · rw [List.length_append, HPJ.out, HQ.out]; rfl
            · rw [HPJ.out]; exact HGO.out
            · rcases hk with hk | hk
              · rcases hg5 k hk with h | h
                · exact .inl (.inl h)
                · right; have h2 := HVX.out; have h3 := HB4.out.size; omega
              · exact .inl (.inr hk)
          clear hs5 hJ5 hg5 bY5 nY2 hm4
          gi_wp2
          exact HFIN.out
        · have hm4 : W.heap.size < V4.heap.size := HY4.out.lt
          have nY2 : ¬ D2 W.heap.size := fun h => by
            rcases hg5 _ h with h | h
            · exact HN.out h
            · omega
          have HFIN : Hid (Kept (fun k => k < X.heap.size ∧ ¬ (Dj k ∨ k = W.heap.size)) V W5 ∧ ∃ D', piecesIx W.heap.size zs J Jx .ret D' (pre ++ [j]) W5 ∧ Grew (fun k => Dj k ∨ k = W.heap.size) D' X.heap.size) := by
            refine ⟨(Kept.ofBelow HB4.out fun k hk => by have := hk.1; have := HVX.out; omega).trans (hs5.mono fun k hk => ⟨by have h1 := hk.1; have h2 := HVX.out; have h3 := HB4.out.size; omega, fun h => hk.2 (.inl h)⟩), fun k => D2 k ∨ k = W.heap.size, ⟨rfl, D2, _, rfl, nY2, by have := hs5.size; omega, .inr hJ5⟩, fun k hk => ?_⟩
            rcases hk with hk | hk
            · rcases hg5 k hk with h | h
              · exact .inl (.inl h)
              · right; have h2 := HVX.out; have h3 := HB4.out.size; omega
            · exact .inl (.inr hk)
          clear hs5 hJ5 hg5 nY2 hm4
          gi_wp2
          exact HFIN.out
  case done =>
    rintro dd D1 xs X hdd hnd hS ⟨Dj, qs, rfl, nY, hj, hq, hg, bY⟩ hgr hsp hK
    have hdX : dd < X.heap.size := lt_of_heap hK
    have hXW : W.heap.size < X.heap.size := bY.lt
    have HE : Hid (Spared D W (X.putObj dd (.deferred none)) ∧ endPiece zs qs ∧ J Dj qs (X.putObj dd (.deferred none)) ∧ Grew D Dj W.heap.size) := by
      refine ⟨?_, ⟨by rw [hq]; exact hg, ?_⟩, ?_, fun k hk => ?_⟩
      · have k1 : Spared D W X := (Kept.ofBelow HB0.out fun k hk => hk.1).trans (hsp.mono fun k hk => ⟨by have := hk.1; omega, fun hd => by
          have := hk.1
          rcases hd with hd | hd
          · exact hk.2 hd
          · omega⟩)
        exact Kept.trans k1 (Kept.putObj _ _ _ _ (fun h => by have := h.1; omega) (fun k hk => by have := hk.1; omega))
      · rw [hq, hS, List.length_range]
        rintro ⟨h1, -⟩
        rw [HLEN.out, chunks_lt (by decide)] at h1
        omega
      · exact HJ.out.same _ _ _ _ hj (Kept.putObj _ _ _ _ (fun h => hnd (.inl h)) (HJ.out.lt _ _ _ hj))
      · rcases hgr k (.inl hk) with (h | h) | h
        · exact .inl h
        · exact absurd (h ▸ hk) nY
        · right; omega
    clear hj hgr hsp hnd hS hq hg bY nY
    gi_wp2
    refine ⟨by simp, .inl ⟨_, _, rfl, run_takeDeferred hK, ?_⟩⟩
    exact ⟨_, results_none rfl _ _ _, ⟨_, rfl⟩, HE.out.1, .inl ⟨qs, Dj, HE.out.2.1, HE.out.2.2.1, HE.out.2.2.2⟩⟩
  case stop =>
    rintro dd c D1 pre X hdd hnd _ ⟨rfl, Dj, qs, rfl, nY, hs, hj⟩ hgr hsp hK
    have hdX : dd < X.heap.size := lt_of_heap hK
    have HE : Hid (Spared D W (X.putObj dd (.deferred none)) ∧ ((∃ xs D', endPiece zs xs ∧ J D' xs (X.putObj dd (.deferred none)) ∧ Grew D D' W.heap.size) ∨ (∃ pre D', True ∧ Jx D' pre (X.putObj dd (.deferred none)) ∧ Grew D D' W.heap.size))) := by
      have hgr2 : Grew D Dj W.heap.size := fun k hk => by
        rcases hgr k (.inl hk) with (h | h) | h
        · exact .inl h
        · exact absurd (h ▸ hk) nY
        · right; omega
      refine ⟨?_, ?_⟩
      · have k1 : Spared D W X := (Kept.ofBelow HB0.out fun k hk => hk.1).trans (hsp.mono fun k hk => ⟨by have := hk.1; omega, fun hd => by
          have := hk.1
          rcases hd with hd | hd
          · exact hk.2 hd
          · omega⟩)
        exact Kept.trans k1 (Kept.putObj _ _ _ _ (fun h => by have := h.1; omega) (fun k hk => by have := hk.1; omega))
      · rcases hj with hj | hj
        · exact .inl ⟨qs, Dj, hj.2, HJ.out.same _ _ _ _ hj.1 (Kept.putObj _ _ _ _ (fun h => hnd (.inl h)) (HJ.out.lt _ _ _ hj.1)), hgr2⟩
        · exact .inr ⟨qs, Dj, trivial, HJx.out.same _ _ _ _ hj (Kept.putObj _ _ _ _ (fun h => hnd (.inl h)) (HJx.out.lt _ _ _ hj)), hgr2⟩
    clear hj hgr hsp hnd nY
    gi_wp2
    refine ⟨by simp, .inl ⟨_, _, rfl, run_takeDeferred hK, ?_⟩⟩
    exact ⟨_, results_none rfl _ _ _, ⟨_, rfl⟩, HE.out.1, HE.out.2⟩
end Go.Proofs.YtndeknkfljnjoaaDoor

/- 'append(own, octets...)' inside a fence. Generic over the program. -/
namespace Go.Proofs.YtndeknkfljnjoaaDoor
open Go.RowKit
set_option linter.unusedVariables false

theorem wpListIn_append_octs {F : Fence} {nF : Nat} {P : Program} (w : World) {ops : Array Oper} {rest : List Oper} {o : Oper} {a : Act} {Q : Exit → Act → World → Prop} (hgd : o.guard = none) (s x : Operand) (t : TypeId)
    (ho : o.op = .call { callee := .builtin .append, args := #[s, x], argTypes := #[t, t] })
    (base : Nat) (e : TypeId) (i : TypeInfo) (ht : P.underlying t = some (.slice e)) (hi : P.info? e = some i) (hz : i.zero = some (.int .u8 0)) (hsize : i.size = 1) (hby : i.bytes = 1)
    (v : Value) (n : Nat) (xs : List Nat) (hs : a.eval s = v) (hown : w.ownsRow base e 1 v n (u8s xs))
    (y : Value) (zs : List Nat) (hx : a.eval x = y) (hsrc : Octs w y zs) (h63 : n + zs.length ≤ 140737488355328) (hbase : base ≤ w.heap.size)
    (h : ∀ v' w', w'.ownsRow base e 1 v' (n + zs.length) (u8s (xs ++ zs)) → w.grownBy w' v.ownBlock → wpListIn F nF P ops Q rest (a.put o.dst v') w') : wpListIn F nF P ops Q (o :: rest) a w := by
  obtain ⟨h1, h2, ad, cap, rfl, h3, h4, h5⟩ := hsrc
  rcases h5 with ⟨rfl, rfl⟩ | ⟨ad, rfl, h5⟩
  · obtain rfl : zs = [] := List.eq_nil_of_length_eq_zero (by omega)
    refine wpListIn_plain hgd fun K hK' => ?_
    have hrun := run_append_owned_none (P := P) (w := w) base t o.type e i 1 ht hi v n _ hown
    unfold Oper.wpIn
    refine ⟨?_, ?_⟩
    · simp [Oper.about, ho, resolve, Target.leads, Sem.run_pure]
    · rw [Oper.semAt_plain F _ _ (by rw [ho]; intro c hc'; cases hc')]
      simp [execOp, ho, resolve, invoke, builtin, hs, hx, hrun, Result.andThen]
      exact hK' _ _ (h v w (by simpa using hown) (World.grownBy.refl _ _))
  · refine wpListIn_append_own w hgd s x t ho base e i (.int .u8 0) 1 1 ht hi hz hsize hby rfl (by decide) v n _ hs hown ad zs.length cap (u8s zs) hx (by rw [u8s_length, Nat.mul_one]) ?_ ?_ (by unfold maxLen; omega) (by omega) hbase ?_
    · intro j u hu
      rcases h5 with rfl | ⟨b, off, rfl, hlt, hc⟩
      · simp [u8s] at hu
      · have hj : j < zs.length := by
          by_cases hj : j < zs.length
          · exact hj
          · rw [List.getElem?_eq_none (by rw [u8s_length]; omega)] at hu; cases hu
        have e1 : (⟨b, off, none⟩ : Addr).add j = ⟨b, off + j, none⟩ := by unfold Addr.add; split <;> simp_all
        rw [e1, hc j hj]
        simp [u8s, List.getElem?_eq_getElem hj] at hu ⊢
        exact hu
    · intro u hu
      simp only [u8s, List.mem_map] at hu
      obtain ⟨z, _, rfl⟩ := hu
      rfl
    · intro v' w' hw hg _
      rw [← u8s_append] at hw
      exact h v' w' hw hg
/-- .. and where the new row lies. -/
theorem wpListIn_append_octs_at {F : Fence} {nF : Nat} {P : Program} (w : World) {ops : Array Oper} {rest : List Oper} {o : Oper} {a : Act} {Q : Exit → Act → World → Prop} (hgd : o.guard = none) (s x : Operand) (t : TypeId)
    (ho : o.op = .call { callee := .builtin .append, args := #[s, x], argTypes := #[t, t] })
    (base : Nat) (e : TypeId) (i : TypeInfo) (ht : P.underlying t = some (.slice e)) (hi : P.info? e = some i) (hz : i.zero = some (.int .u8 0)) (hsize : i.size = 1) (hby : i.bytes = 1)
    (v : Value) (n : Nat) (xs : List Nat) (hs : a.eval s = v) (hown : w.ownsRow base e 1 v n (u8s xs))
    (y : Value) (zs : List Nat) (hx : a.eval x = y) (hsrc : Octs w y zs) (h63 : n + zs.length ≤ 140737488355328) (hbase : base ≤ w.heap.size)
    (h : ∀ v' w', w'.ownsRow base e 1 v' (n + zs.length) (u8s (xs ++ zs)) → w.grownBy w' v.ownBlock → (v'.ownBlock = v.ownBlock ∨ v'.ownBlock = some w.heap.size) → wpListIn F nF P ops Q rest (a.put o.dst v') w') : wpListIn F nF P ops Q (o :: rest) a w := by
  obtain ⟨h1, h2, ad, cap, rfl, h3, h4, h5⟩ := hsrc
  rcases h5 with ⟨rfl, rfl⟩ | ⟨ad, rfl, h5⟩
  · obtain rfl : zs = [] := List.eq_nil_of_length_eq_zero (by omega)
    refine wpListIn_plain hgd fun K hK' => ?_
    have hrun := run_append_owned_none (P := P) (w := w) base t o.type e i 1 ht hi v n _ hown
    unfold Oper.wpIn
    refine ⟨?_, ?_⟩
    · simp [Oper.about, ho, resolve, Target.leads, Sem.run_pure]
    · rw [Oper.semAt_plain F _ _ (by rw [ho]; intro c hc'; cases hc')]
      simp [execOp, ho, resolve, invoke, builtin, hs, hx, hrun, Result.andThen]
      exact hK' _ _ (h v w (by simpa using hown) (World.grownBy.refl _ _) (.inl rfl))
  · refine wpListIn_append_own_at w hgd s x t ho base e i (.int .u8 0) 1 1 ht hi hz hsize hby rfl (by decide) v n _ hs hown ad zs.length cap (u8s zs) hx (by rw [u8s_length, Nat.mul_one]) ?_ ?_ (by unfold maxLen; omega) (by omega) hbase ?_
    · intro j u hu
      rcases h5 with rfl | ⟨b, off, rfl, hlt, hc⟩
      · simp [u8s] at hu
      · have hj : j < zs.length := by
          by_cases hj : j < zs.length
          · exact hj
          · rw [List.getElem?_eq_none (by rw [u8s_length]; omega)] at hu; cases hu
        have e1 : (⟨b, off, none⟩ : Addr).add j = ⟨b, off + j, none⟩ := by unfold Addr.add; split <;> simp_all
        rw [e1, hc j hj]
        simp [u8s, List.getElem?_eq_getElem hj] at hu ⊢
        exact hu
    · intro u hu
      simp only [u8s, List.mem_map] at hu
      obtain ⟨z, _, rfl⟩ := hu
      rfl
    · intro v' w' hw hg _ hat
      rw [← u8s_append] at hw
      exact h v' w' hw hg hat
end Go.Proofs.YtndeknkfljnjoaaDoor

/- Contract of the program's 'Cut'. -/
namespace Go.Proofs.YtndeknkfljnjoaaDoor
open Go.RowKit Go.Shelf
set_option linter.unusedVariables false
attribute [local go_sem] Oper.semAt_some

/-- The sectors of the first j. -/
def cutK (e n : Int) (zs : List Nat) (j : Nat) : List Nat := if j ≤ partsN zs.length then cutN e n zs j else cutS e n zs
theorem cutK_zero (e n : Int) (zs : List Nat) : cutK e n zs 0 = [] := by unfold cutK; rw [if_pos (Nat.zero_le _)]; rfl
theorem cutK_all (e n : Int) (zs : List Nat) : cutK e n zs (partsN zs.length + 1) = cutS e n zs := by unfold cutK; rw [if_neg (by omega)]
theorem cutK_part (e n : Int) (zs : List Nat) (j : Nat) (h : j < partsN zs.length) : cutK e n zs j ++ sect6 (partOf e n zs j) = cutK e n zs (j + 1) := by
  unfold cutK; rw [if_pos (by omega), if_pos (by omega)]; rfl
theorem cutK_foot (e n : Int) (zs : List Nat) : cutK e n zs (partsN zs.length) ++ sect6 (footOf e n zs) = cutK e n zs (partsN zs.length + 1) := by
  rw [cutK_all]; unfold cutK; rw [if_pos (Nat.le_refl _)]; rfl
theorem cutK_length (e n : Int) (zs : List Nat) (j : Nat) (h : j ≤ partsN zs.length + 1) : (cutK e n zs j).length = 128 * j := by
  unfold cutK
  split
  · exact cutN_length e n zs j
  · rw [cutS_length]; omega
theorem cutK_small {zs : List Nat} (h : ∀ z ∈ zs, z < 256) (e n : Int) (j : Nat) : ∀ z ∈ cutK e n zs j, z < 256 := by
  unfold cutK
  split
  · exact cutN_small h e n j
  · exact cutS_small h e n
/-- Between two rounds: its boxes, and the sectors so far. -/
def cutI (m C : Nat) (e n : Int) (zs : List Nat) (D1 : Nat → Prop) (pre : List (Part × Value)) (X : World) : Prop :=
  D1 = (fun k => k = m ∨ k = m + 1 ∨ k = m + 2 ∨ k = m + 3) ∧ pre.length ≤ partsN zs.length + 1 ∧ Boxed X m 22 (.slice none 0 0) ∧ Boxed X (m + 1) 26 (.int .i64 0) ∧ Boxed X (m + 3) 22 (.slice (some ⟨m + 2, 0, none⟩) (128 * pre.length) C) ∧ X.ownsRow m 5 1 (.slice (some ⟨m + 2, 0, none⟩) (128 * pre.length) C) (128 * pre.length) (u8s (cutK e n zs pre.length))
theorem cutI_local (m C : Nat) (e n : Int) (zs : List Nat) : Local (cutI m C e n zs) := by
  refine ⟨?_, ?_⟩
  · rintro D1 pre X ⟨rfl, hp, b1, b2, b3, ho⟩ k hk
    have := b3.lt
    rcases hk with rfl | rfl | rfl | rfl <;> omega
  · rintro D1 pre X X' ⟨rfl, hp, b1, b2, b3, ho⟩ hk
    exact ⟨rfl, hp, (hk.block _ (.inl rfl)).trans b1, (hk.block _ (.inr (.inl rfl))).trans b2, (hk.block _ (.inr (.inr (.inr rfl)))).trans b3, ownsRow_same ho fun g hg => hk.block g (.inr (.inr (.inl (by cases hg; rfl))))⟩
theorem results_cell_cell {fn : Func} {t u : Tmp} {ty ty2 : TypeId} (h : fn.results = #[.cell t ty, .cell u ty2]) {tmps : Array Value} {P : Program} {w : World} {a b : Addr} {v x : Value} (h2 : tmps.getD t undef = .pointer (some a)) (h3 : tmps.getD u undef = .pointer (some b)) (hld : (loadVar ty a).run P w = .ok v w) (hld2 : (loadVar ty2 b).run P w = .ok x w) : (results fn tmps).run P w = .ok (.tuple #[v, x]) w := by
  have h4 : tmps[t]?.getD undef = .pointer (some a) := by rw [← h2]; simp
  have h5 : tmps[u]?.getD undef = .pointer (some b) := by rw [← h3]; simp
  simp only [results, h]
  simp [asAddr, hld, hld2, h4, h5]
theorem false_local {α : Type} : Local (fun (_ : Nat → Prop) (_ : α) (_ : World) => False) := ⟨fun _ _ _ h => h.elim, fun _ _ _ _ h _ => h.elim⟩
theorem Tryd.make6 (n : Nat) (hn : n ≤ 100000) (W : World) : (Instr.makeSlice 22 (.int .i64 0) (.int .i64 (n : Nat))).run Tryd.prog W = .ok (.slice (some ⟨W.heap.size, 0, none⟩) 0 n) (W.alloc (.cells (u8s (zl n)).toArray 5)) := by
  obtain ⟨i0, hi, hz0, hz1, hz2⟩ := info_parts Tryd.infoU8'
  have := run_make (P := Tryd.prog) W 22 5 i0 _ Tryd.underlying22 hi hz0 .i64 .i64 0 (n : Nat) (by omega) (by omega) (by rw [hz2]; omega) (by omega)
  rw [this, hz1, Nat.mul_one, Int.toNat_natCast, made_u8]
  rfl

set_option maxRecDepth 20000 in
set_option maxHeartbeats 1000000 in
theorem cut6_ok (e n : Int) (v : Value) (zs : List Nat) (w : World) (hid : okId e n = true) (ho : Octs w v zs) (hl1 : 1 ≤ zs.length) (hl2 : zs.length ≤ 65000) (ht : Steps w) :
    Calls Tryd.prog 14 #[.int .i64 e, .int .i64 n, v] w fun x w' => ∃ u, x = .returned (.tuple #[u, .int .i64 0]) ∧ Octs w' u (cutS e n zs) ∧ Below w.heap.size w w' := by
  obtain ⟨a, cap, rfl⟩ := ho.shape
  obtain ⟨bb, off, rfl, hbb, -⟩ := ho.addr hl1
  obtain ⟨L, hL⟩ : ∃ L, L = zs.length := ⟨_, rfl⟩
  rw [← hL] at ho hl1 hl2 ⊢
  have HO : Hid (Octs w (.slice (some ⟨bb, off, none⟩) L cap) zs) := ho
  have HT : Hid (Steps w) := ht
  have HID : Hid (okId e n = true) := hid
  have hcap := ho.capLe
  obtain ⟨C, hC⟩ : ∃ C, C = 128 * (partsN L + 1) := ⟨_, rfl⟩
  obtain ⟨S, hS⟩ : ∃ S, S = partsN L + 1 := ⟨_, rfl⟩
  have hpn : partsN L ≤ 600 := by unfold partsN; omega
  have HSE : Hid ((if 1 ≤ (L : Int) ∧ (L : Int) ≤ 65000 then ((L : Int) + 111) / 112 + 1 else 0) = (S : Nat)) := by
    unfold Hid; rw [if_pos (by omega), hS]; unfold partsN; omega
  have hS0 : ¬ (S : Int) = 0 := by omega
  have hSC : (S : Int) * 128 = (C : Nat) := by omega
  have hwC : IntKind.i64.wrap (C : Nat) = (C : Nat) := by rw [IntKind.wrap_i64]; omega
  have hmk := Tryd.make6 C (by omega)
  have HC : Hid (C ≤ 100000) := by unfold Hid; omega
  have HLE : Hid (L = zs.length) := hL
  have HCC : Hid (C = 128 * (partsN zs.length + 1)) := by unfold Hid; rw [hC, hL]
  have HLL : Hid ((1 : Nat) ≤ L ∧ L ≤ 65000) := ⟨hl1, hl2⟩
  clear ho ht hid hC hS hL hpn
  refine (callsIn_wide (n := 6)).1 (callsIn_of_wp_marks (F := Fence.wide) (n := 6) Tryd.func14 rfl trivial ?_ rfl)
  simp only [Tryd.ntmps14, List.size_toArray, List.length_cons, List.length_nil, Nat.reduceAdd, Nat.reduceSub, Array.replicate_succ, Array.replicate_zero, List.push_toArray, List.append_toArray, List.nil_append, List.cons_append]
  gi_wp2_with fail
  refine ⟨trivial, callsIn_wide.2 ((sectors6 L _ (by omega) (by omega)).mono ?_)⟩
  rintro x w1 ⟨rfl, rfl⟩
  rw [HSE.out]
  gi_wp2_with fail
  obtain ⟨V3, hV3⟩ : ∃ V3, V3 = (((w.alloc (.cells #[.slice none 0 0] 22)).alloc (.cells #[.int .i64 0] 26)).alloc (.cells (u8s (zl C)).toArray 5)).alloc (.cells #[.slice (some ⟨w.heap.size + 2, 0, none⟩) 0 C] 22) := ⟨_, rfl⟩
  have at1 : ∀ (A : World) (o : Obj) (k : Nat), k < A.heap.size → (A.alloc o).heap[k]? = A.heap[k]? := fun A o k hk => Below.heap_alloc A o k hk
  have hsz3 : V3.heap.size = w.heap.size + 4 := by rw [hV3]; simp
  have hB3 : Below w.heap.size w V3 := by
    rw [hV3]
    exact ((((Below.refl _ w).alloc (Nat.le_refl _) _).alloc (by simp) _).alloc (by simp <;> omega) _).alloc (by simp <;> omega) _
  have x6 : Boxed V3 w.heap.size 22 (.slice none 0 0) := by
    unfold Boxed; rw [hV3, at1 _ _ _ (by simp <;> omega), at1 _ _ _ (by simp <;> omega), at1 _ _ _ (by simp)]; exact World.alloc_heap_new w _
  have x7 : Boxed V3 (w.heap.size + 1) 26 (.int .i64 0) := by
    unfold Boxed; rw [hV3, at1 _ _ _ (by simp <;> omega), at1 _ _ _ (by simp)]
    have := World.alloc_heap_new (w.alloc (.cells #[.slice none 0 0] 22)) (.cells #[.int .i64 0] 26)
    rwa [World.size_alloc] at this
  have x8 : V3.heap[w.heap.size + 2]? = some (.cells (u8s (zl C)).toArray 5 (0, 0)) := by
    rw [hV3, at1 _ _ _ (by simp)]
    have := World.alloc_heap_new ((w.alloc (.cells #[.slice none 0 0] 22)).alloc (.cells #[.int .i64 0] 26)) (.cells (u8s (zl C)).toArray 5)
    rwa [World.size_alloc, World.size_alloc] at this
  have x9 : Boxed V3 (w.heap.size + 3) 22 (.slice (some ⟨w.heap.size + 2, 0, none⟩) 0 C) := by
    unfold Boxed; rw [hV3]
    have := World.alloc_heap_new (((w.alloc (.cells #[.slice none 0 0] 22)).alloc (.cells #[.int .i64 0] 26)).alloc (.cells (u8s (zl C)).toArray 5)) (.cells #[.slice (some ⟨w.heap.size + 2, 0, none⟩) 0 C] 22)
    rwa [World.size_alloc, World.size_alloc, World.size_alloc] at this
  have hV3' := hV3
  rw [show w.heap.size + 2 = w.heap.size + 1 + 1 from rfl] at hV3'
  rw [← hV3']
  clear hV3 hV3' at1
  have HSZ3 : Hid (V3.heap.size = w.heap.size + 4) := hsz3
  clear hsz3
  refine ⟨trivial, callsIn_wide.2 ((parts_v V3 e n _ (some ⟨bb, off, none⟩) L cap rfl).mono ?_)⟩
  rintro x V00 ⟨rfl, rfl⟩
  gi_wp2_with fail
  obtain ⟨V0, hV0⟩ : ∃ V0, V0 = ((V3.alloc (.cells #[.int .i64 e] 3)).alloc (.cells #[.int .i64 n] 3)).alloc (.cells #[.slice (some ⟨bb, off, none⟩) L cap] 22) := ⟨_, rfl⟩
  rw [← hV0]
  have hsz3 := HSZ3.out
  have hsz0 : V0.heap.size = w.heap.size + 7 := by rw [hV0]; simp; omega
  have hB0 : Below V3.heap.size V3 V0 := by rw [hV0]; exact (((Below.refl _ V3).alloc (Nat.le_refl _) _).alloc (by simp) _).alloc (by simp <;> omega) _
  have y1 : Boxed V0 V3.heap.size 3 (.int .i64 e) := by rw [hV0]; exact ((Boxed.new V3 _ _).alloc _).alloc _
  have y2 : Boxed V0 (V3.heap.size + 1) 3 (.int .i64 n) := by
    rw [hV0]
    have := (Boxed.new (V3.alloc (.cells #[.int .i64 e] 3)) 3 (.int .i64 n)).alloc (.cells #[.slice (some ⟨bb, off, none⟩) L cap] 22)
    rwa [World.size_alloc] at this
  have y3 : Boxed V0 (V3.heap.size + 2) 22 (.slice (some ⟨bb, off, none⟩) L cap) := by
    rw [hV0]
    have := Boxed.new ((V3.alloc (.cells #[.int .i64 e] 3)).alloc (.cells #[.int .i64 n] 3)) 22 (.slice (some ⟨bb, off, none⟩) L cap)
    rwa [World.size_alloc, World.size_alloc] at this
  clear hV0
  have hBw : Below w.heap.size w V0 := hB3.trans (hB0.mono (by omega))
  obtain ⟨m, hm⟩ : ∃ m, m = w.heap.size := ⟨_, rfl⟩
  have own0 : V0.ownsRow m 5 1 (.slice (some ⟨m + 2, 0, none⟩) 0 C) 0 [] := by
    refine ⟨rfl, .inr ⟨m + 2, C, (u8s (zl C)).toArray, rfl, by omega, ?_, Nat.zero_le _, by have := HC.out; unfold maxLen; omega, by simp [u8s_length, zl_length], by simp⟩⟩
    rw [hm]; exact (hB0.block _ (by omega)).trans x8
  have I0 : cutI m C e n zs (fun k => k = m ∨ k = m + 1 ∨ k = m + 2 ∨ k = m + 3) [] V0 := by
    refine ⟨rfl, Nat.zero_le _, ?_, ?_, ?_, ?_⟩
    · rw [hm]; exact (hB0.block _ (by omega)).trans x6
    · rw [hm]; exact (hB0.block _ (by omega)).trans x7
    · rw [hm]; exact (hB0.block _ (by omega)).trans x9
    · rw [show ([] : List (Part × Value)).length = 0 from rfl, cutK_zero]; exact own0
  have HCE : Hid (C = 128 * (partsN zs.length + 1)) := HCC.out
  refine wpIn_rangeSep (n := 6) (gf := 47) (lb := #[.pointer (some ⟨V3.heap.size, 0, none⟩), .pointer (some ⟨V3.heap.size + 1, 0, none⟩), .pointer (some ⟨V3.heap.size + 2, 0, none⟩)]) rfl (enters_of Tryd.func47 (by kernel_rfl) rfl)
    (parts_seq w V3.heap.size (V3.heap.size + 1) (V3.heap.size + 2) bb off L cap e n zs HO.out hl1 hl2 HT.out V0 hBw (fun k => k < m ∨ m + 4 ≤ k ∧ k < m + 7) (.inr (by omega)) (.inr (by omega)) (.inr (by omega)) (fun k hk => .inl (by omega)) (fun k hk => by omega) y1.cell y2.cell y3.cell)
    (Kept.refl _ _) (fun k hk => by omega) (fun _ => rfl) (cutI m C e n zs) (fun _ _ _ _ => False) (cutI_local _ _ _ _ _) (fun _ => false_local) (fun k => k = m ∨ k = m + 1 ∨ k = m + 2 ∨ k = m + 3) (fun k hk hd => by omega) I0 ?round ?done ?stop
  case round =>
    rintro l D1 pre ⟨p, pv⟩ X hl hnl hlo ⟨rfl, hp, b1, b2, b3, hown⟩ ⟨⟨hoc, hpart⟩, hkR⟩
    obtain ⟨pa, pc, hpv⟩ := hoc.shape
    simp only at hpv hpart hoc
    subst hpv
    have hX3 : m + 3 < X.heap.size := b3.lt
    have hok : okP p = true := by
      rcases hpart with ⟨h, rfl⟩ | ⟨h, rfl⟩
      · exact partOf_ok HID.out zs _ (by have : partsN zs.length ≤ 600 := by (rw [← HLE.out]; unfold partsN; omega)
                                         omega)
      · exact footOf_ok HID.out zs (by rw [← HLE.out]; exact hl2)
    have hnx : cutK e n zs pre.length ++ sect6 p = cutK e n zs (pre.length + 1) := by
      rcases hpart with ⟨h, rfl⟩ | ⟨h, rfl⟩
      · exact cutK_part e n zs _ h
      · rw [h]; exact cutK_foot e n zs
    have hpl : pre.length ≤ partsN zs.length := by rcases hpart with ⟨h, _⟩ | ⟨h, _⟩ <;> omega
    gi_wp2
    refine ⟨(Below.refl _ _).alloc (Nat.le_refl _) _, fun V hVk hVs => ?_⟩
    subst hm
    have hWa : Below X.heap.size X (X.alloc (.cells #[.bool p.foot, .int .i64 p.epoch, .int .i64 p.number, .int .i64 p.index, .slice pa p.data.length pc] 24)) := (Below.refl _ _).alloc (Nat.le_refl _) _
    have hlX : l < X.heap.size := by obtain ⟨r, h⟩ := hlo; exact lt_of_heap h
    have hXV : Kept (fun k => k < X.heap.size ∧ k ≠ l) X V := (Kept.ofBelow hWa fun k hk => hk.1).trans (hVk.mono fun k hk => hk.2)
    have bPV : PA V X.heap.size p.foot p.epoch p.number p.index (.slice pa p.data.length pc) := (hVk.block _ (show X.heap.size ≠ l by omega)).trans (heap_alloc_new X _)
    have hocV : Octs V (.slice pa p.data.length pc) p.data := hoc.only (loop_noOct hlo) hXV
    have v6 : Boxed V w.heap.size 22 (.slice none 0 0) := (hXV.block _ ⟨by omega, by omega⟩).trans b1
    have v7 : Boxed V (w.heap.size + 1) 26 (.int .i64 0) := (hXV.block _ ⟨by omega, by omega⟩).trans b2
    have v9 : Boxed V (w.heap.size + 3) 22 (.slice (some ⟨w.heap.size + 2, 0, none⟩) (128 * pre.length) C) := (hXV.block _ ⟨by omega, by omega⟩).trans b3
    have vown : V.ownsRow w.heap.size 5 1 (.slice (some ⟨w.heap.size + 2, 0, none⟩) (128 * pre.length) C) (128 * pre.length) (u8s (cutK e n zs pre.length)) := ownsRow_same hown fun g hg => by cases hg; exact hXV.block _ ⟨by show w.heap.size + 2 < _; omega, by show w.heap.size + 2 ≠ l; omega⟩
    have hBV : Below w.heap.size w V := (hBw.trans (hkR.below fun k hk => .inl hk)).trans ((hXV.below (B := w.heap.size) fun k hk => ⟨by omega, by omega⟩))
    have hTV : Steps V := HT.out.below hBV
    have hVs' : X.heap.size < V.heap.size := bPV.lt
    obtain ⟨q0, q1, q2, q3, q4⟩ := bPV.cells
    obtain ⟨j, hj⟩ : ∃ j, j = pre.length := ⟨_, rfl⟩
    have HJ : Hid (j = pre.length) := hj
    rw [← hj] at v9 vown hnx hpl hown b3
    have H6 : Hid (Boxed V w.heap.size 22 (.slice none 0 0) ∧ Boxed V (w.heap.size + 1) 26 (.int .i64 0) ∧ Boxed V (w.heap.size + 3) 22 (.slice (some ⟨w.heap.size + 2, 0, none⟩) (128 * j) C)) := ⟨v6, v7, v9⟩
    have HOW : Hid (V.ownsRow w.heap.size 5 1 (.slice (some ⟨w.heap.size + 2, 0, none⟩) (128 * j) C) (128 * j) (u8s (cutK e n zs j))) := vown
    have HNX : Hid (cutK e n zs j ++ sect6 p = cutK e n zs (j + 1)) := hnx
    have HOK : Hid (okP p = true) := hok
    have HD112 : Hid (p.data.length ≤ 112) := (okP_right.1 hok).data
    have HPL : Hid (j ≤ partsN zs.length) := hpl
    have HXs : Hid (w.heap.size + 3 < X.heap.size ∧ X.heap.size < V.heap.size) := ⟨hX3, hVs'⟩
    have HOC : Hid (Octs V (.slice pa p.data.length pc) p.data ∧ Steps V) := ⟨hocV, hTV⟩
    clear hj v6 v7 v9 vown hnx hok hpl hocV hTV hBV hoc hpart hkR hown b1 b2 b3 hVk hXV hWa hVs hVs' bPV
    gi_wp2_with fail
    refine ⟨trivial, CallsIn.inRound l (callsIn_wide.2 ((put6_ok p _ V HOK.out HOC.out.1 HOC.out.2).mono ?_))⟩
    rintro x W4 ⟨u, rfl, hu, hb4⟩
    have HU : Hid (Octs W4 u (sect6 p)) := hu
    have HL128 : Hid ((sect6 p).length = 128) := sect6_length p HD112.out
    have H9 : Hid (Boxed W4 w.heap.size 22 (.slice none 0 0) ∧ Boxed W4 (w.heap.size + 1) 26 (.int .i64 0) ∧ Boxed W4 (w.heap.size + 3) 22 (.slice (some ⟨w.heap.size + 2, 0, none⟩) (128 * j) C)) := ⟨(hb4.block _ H6.out.1.lt).trans H6.out.1, (hb4.block _ H6.out.2.1.lt).trans H6.out.2.1, (hb4.block _ H6.out.2.2.lt).trans H6.out.2.2⟩
    have HW4 : Hid (W4.ownsRow w.heap.size 5 1 (.slice (some ⟨w.heap.size + 2, 0, none⟩) (128 * j) C) (128 * j) (u8s (cutK e n zs j))) := ownsRow_same HOW.out fun g hg => hb4.block g (HOW.out.lt g hg).2
    have HB4 : Hid (Below V.heap.size V W4) := hb4
    obtain ⟨ua, uc, hush⟩ := hu.shape
    rw [HL128.out] at hush
    subst hush
    obtain ⟨sb, so, hsb, -, -⟩ := hu.addr (by decide)
    subst hsb
    obtain ⟨i0, hi, hz0, hz1, hz2⟩ := info_parts Tryd.infoU8'
    have c9 : W4.cell? ⟨w.heap.size + 1 + 1 + 1, 0, none⟩ = some (.slice (some ⟨w.heap.size + 2, 0, none⟩) (128 * j) C) := H9.out.2.2.cell
    have f9 : W4.frozen? ⟨w.heap.size + 1 + 1 + 1, 0, none⟩ = false := H9.out.2.2.frozen
    clear hu hb4 q0 q1 q2 q3 q4
    gi_wp2_with (gi_at_builtin; refine wpListIn_append_fits _ rfl _ _ 22 rfl w.heap.size 5 i0 1 Tryd.underlying22 hi hz1 (w.heap.size + 2) (128 * j) C _ rfl HW4.out ⟨sb, so, none⟩ 128 uc (u8s (sect6 p)) rfl (by rw [u8s_length, HL128.out]) ?s1 (u8s_one _) ?s2 ?_)
    case s1 =>
      obtain ⟨sp, sc, es, hsrc⟩ := HU.out.src
      rw [HL128.out] at es
      simp only [Value.slice.injEq] at es
      obtain ⟨es1, -, -⟩ := es
      obtain ⟨ad, ead, hcell⟩ := hsrc (by rw [u8s_length, HL128.out]; decide)
      rw [← es1] at ead
      cases ead
      exact hcell
    case s2 => rw [HCE.out]; have := HPL.out; omega
    intro W5 hown5 hg5
    have hs5 : W4.heap.size ≤ W5.heap.size := hg5.size
    have b95 : Boxed W5 (w.heap.size + 3) 22 (.slice (some ⟨w.heap.size + 2, 0, none⟩) (128 * j) C) := H9.out.2.2.kept hg5 (by simp)
    have c95 : W5.cell? ⟨w.heap.size + 1 + 1 + 1, 0, none⟩ = some (.slice (some ⟨w.heap.size + 2, 0, none⟩) (128 * j) C) := b95.cell
    have f95 : W5.frozen? ⟨w.heap.size + 1 + 1 + 1, 0, none⟩ = false := b95.frozen
    obtain ⟨W6, hW6⟩ : ∃ W6, W6 = W5.setCell ⟨w.heap.size + 3, 0, none⟩ (.slice (some ⟨w.heap.size + 2, 0, none⟩) (128 * j + 128) C) := ⟨_, rfl⟩
    have b96 : Boxed W6 (w.heap.size + 3) 22 (.slice (some ⟨w.heap.size + 2, 0, none⟩) (128 * j + 128) C) := by rw [hW6]; exact b95.set _
    have b66 : Boxed W6 w.heap.size 22 (.slice none 0 0) := by rw [hW6]; exact (H9.out.1.kept hg5 (by simp)).other (by omega) _
    have b76 : Boxed W6 (w.heap.size + 1) 26 (.int .i64 0) := by rw [hW6]; exact (H9.out.2.1.kept hg5 (by simp)).other (by omega) _
    have own6 : W6.ownsRow w.heap.size 5 1 (.slice (some ⟨w.heap.size + 2, 0, none⟩) (128 * (j + 1)) C) (128 * (j + 1)) (u8s (cutK e n zs (j + 1))) := by
      rw [← HNX.out, u8s_append, hW6]
      exact ownsRow_same hown5 fun g hg => by cases hg; exact Below.heap_setCell _ _ _ _ (show w.heap.size + 2 ≠ w.heap.size + 3 by omega)
    have k6 : Kept (fun k => k < X.heap.size ∧ ¬ (k = w.heap.size ∨ k = w.heap.size + 1 ∨ k = w.heap.size + 2 ∨ k = w.heap.size + 3)) V W6 := by
      rw [hW6]
      have k1 : Kept (fun k => k < X.heap.size ∧ ¬ (k = w.heap.size ∨ k = w.heap.size + 1 ∨ k = w.heap.size + 2 ∨ k = w.heap.size + 3)) V W4 := Kept.ofBelow HB4.out fun k hk => by have := hk.1; have := HXs.out.2; omega
      refine (k1.grown hg5 fun k hk => ⟨by have h1 := hk.1; have h2 := HXs.out.2; have h3 := HB4.out.size; omega, fun e => hk.2 (.inr (.inr (.inl (by cases e; rfl))))⟩).setCell (p := ⟨w.heap.size + 3, 0, none⟩) (fun hk => hk.2 (.inr (.inr (.inr rfl)))) _
    have HFIN : Hid (Kept (fun k => k < X.heap.size ∧ ¬ (k = w.heap.size ∨ k = w.heap.size + 1 ∨ k = w.heap.size + 2 ∨ k = w.heap.size + 3)) V W6 ∧ ∃ D', cutI w.heap.size C e n zs D' (pre ++ [(p, .slice pa p.data.length pc)]) W6 ∧ Grew (fun k => k = w.heap.size ∨ k = w.heap.size + 1 ∨ k = w.heap.size + 2 ∨ k = w.heap.size + 3) D' X.heap.size) := by
      have hlen : (pre ++ [(p, Value.slice pa p.data.length pc)]).length = j + 1 := by rw [List.length_append, HJ.out]; rfl
      refine ⟨k6, _, ⟨rfl, ?_, b66, b76, ?_, ?_⟩, Grew.refl _ _⟩
      · rw [hlen]; have := HPL.out; omega
      · rw [hlen]; exact b96
      · rw [hlen]; exact own6
    have HW6 : Hid (W6 = W5.setCell ⟨w.heap.size + 1 + 1 + 1, 0, none⟩ (.slice (some ⟨w.heap.size + 2, 0, none⟩) (128 * j + 128) C)) := hW6
    clear hown5 hg5 hs5 b95 hW6 b96 b66 b76 own6 k6 c9 f9
    gi_wp2
    rw [← HW6.out]
    exact HFIN.out
  case done =>
    rintro dd D1 xs X hdd hnd hS ⟨rfl, hp, b1, b2, b3, hown⟩ hgr hsp hK
    subst hm
    rw [hS] at b3 hown
    rw [cutK_all] at hown
    obtain ⟨T, hT⟩ : ∃ T, T = 128 * (partsN zs.length + 1) := ⟨_, rfl⟩
    rw [← hT] at b3 hown
    have hX3 : w.heap.size + 3 < X.heap.size := b3.lt
    have hddX : dd < X.heap.size := lt_of_heap hK
    have c9 : X.cell? ⟨w.heap.size + 1 + 1 + 1, 0, none⟩ = some (.slice (some ⟨w.heap.size + 2, 0, none⟩) T C) := b3.cell
    have c6 := b1.cell
    have f6 := b1.frozen
    have c7 := b2.cell
    have f7 := b2.frozen
    obtain ⟨Y, hY⟩ : ∃ Y, Y = (X.setCell ⟨w.heap.size, 0, none⟩ (.slice (some ⟨w.heap.size + 2, 0, none⟩) T C)).setCell ⟨w.heap.size + 1, 0, none⟩ (.int .i64 0) := ⟨_, rfl⟩
    have y6 : Boxed Y w.heap.size 22 (.slice (some ⟨w.heap.size + 2, 0, none⟩) T C) := by rw [hY]; exact (b1.set _).other (by omega) _
    have y7 : Boxed Y (w.heap.size + 1) 26 (.int .i64 0) := by rw [hY]; exact (b2.other (by omega) _).set _
    have hYk : Y.heap[dd]? = some (.deferred (some [])) := by rw [hY]; exact ((Below.heap_setCell _ _ _ _ (show dd ≠ w.heap.size + 1 by omega)).trans (Below.heap_setCell _ _ _ _ (show dd ≠ w.heap.size by omega))).trans hK
    have yown : Y.ownsRow w.heap.size 5 1 (.slice (some ⟨w.heap.size + 2, 0, none⟩) T C) T (u8s (cutS e n zs)) := by
      rw [hY]
      exact ownsRow_same hown fun g hg => by cases hg; exact (Below.heap_setCell _ _ _ _ (show w.heap.size + 2 ≠ w.heap.size + 1 by omega)).trans (Below.heap_setCell _ _ _ _ (show w.heap.size + 2 ≠ w.heap.size by omega))
    have hBX : Below w.heap.size w X := hBw.trans (hsp.below fun k hk => ⟨by omega, by omega⟩)
    have HBY : Hid (Below w.heap.size w (Y.putObj dd (.deferred none))) := by
      unfold Hid
      have h1 : Below w.heap.size w Y := by rw [hY]; exact (hBX.setCell (p := ⟨w.heap.size, 0, none⟩) (Nat.le_refl _) _).setCell (p := ⟨w.heap.size + 1, 0, none⟩) (by show w.heap.size ≤ w.heap.size + 1; omega) _
      exact h1.grown (grownBy_putObj' Y dd _) h1.size (fun k e => by cases e; omega)
    have HOY : Hid (Octs (Y.putObj dd (.deferred none)) (.slice (some ⟨w.heap.size + 2, 0, none⟩) T C) (cutS e n zs)) := by
      refine Octs.owned (ownsRow_same yown fun g hg => ?_) (cutS_small HO.out.small e n)
      cases hg
      exact World.putObj_heap_other (show w.heap.size + 2 ≠ dd by omega)
    have HP6 : Hid ((Y.putObj dd (.deferred none)).cell? ⟨w.heap.size, 0, none⟩ = some (.slice (some ⟨w.heap.size + 2, 0, none⟩) T C) ∧ (Y.putObj dd (.deferred none)).cell? ⟨w.heap.size + 1, 0, none⟩ = some (.int .i64 0)) :=
      ⟨(World.cell?_of_block (w := Y) (a := ⟨w.heap.size, 0, none⟩) (World.putObj_heap_other (show w.heap.size ≠ dd by omega))).trans y6.cell, (World.cell?_of_block (w := Y) (a := ⟨w.heap.size + 1, 0, none⟩) (World.putObj_heap_other (show w.heap.size + 1 ≠ dd by omega))).trans y7.cell⟩
    have HY : Hid (Y = (X.setCell ⟨w.heap.size, 0, none⟩ (.slice (some ⟨w.heap.size + 2, 0, none⟩) T C)).setCell ⟨w.heap.size + 1, 0, none⟩ (.int .i64 0)) := hY
    clear b1 b2 b3 hown hsp hgr hK hT hY y6 y7 yown hBX hS hp
    gi_wp2
    rw [← HY.out]
    refine ⟨by simp, .inl ⟨_, _, rfl, run_takeDeferred hYk, ?_⟩⟩
    have hl6 : (loadVar 22 ⟨w.heap.size, 0, none⟩).run Tryd.prog (Y.putObj dd (.deferred none)) = .ok (.slice (some ⟨w.heap.size + 2, 0, none⟩) T C) (Y.putObj dd (.deferred none)) := by simp [loadVar, isAgg, run_underlying Tryd.underlying22, Result.andThen, HP6.out.1, go_sem]
    have hl7 : (loadVar 26 ⟨w.heap.size + 1, 0, none⟩).run Tryd.prog (Y.putObj dd (.deferred none)) = .ok (.int .i64 0) (Y.putObj dd (.deferred none)) := by simp [loadVar, isAgg, run_underlying Tryd.underlying26, Result.andThen, HP6.out.2, go_sem]
    exact ⟨_, results_cell_cell rfl rfl rfl hl6 hl7, _, rfl, HOY.out, HBY.out⟩
  case stop =>
    rintro dd c D1 pre X _ _ _ h
    exact h.elim
end Go.Proofs.YtndeknkfljnjoaaDoor

/- Contract of the program's 'Cut' where it refuses. -/
namespace Go.Proofs.YtndeknkfljnjoaaDoor
open Go.RowKit Go.Shelf
set_option linter.unusedVariables false
attribute [local go_sem] Oper.semAt_some

set_option maxHeartbeats 400000 in
theorem cut6_none (e n : Int) (v : Value) (zs : List Nat) (w : World) (ho : Octs w v zs) (hl : zs.length = 0 ∨ 65000 < zs.length) :
    Calls Tryd.prog 14 #[.int .i64 e, .int .i64 n, v] w fun x w' => x = .returned (.tuple #[.slice none 0 0, .int .i64 2]) ∧ Below w.heap.size w w' := by
  have hlen := ho.len
  obtain ⟨a, cap, rfl⟩ := ho.shape
  obtain ⟨L, hL⟩ : ∃ L, L = zs.length := ⟨_, rfl⟩
  rw [← hL] at hl hlen ⊢
  have HSE : Hid ((if 1 ≤ (L : Int) ∧ (L : Int) ≤ 65000 then ((L : Int) + 111) / 112 + 1 else 0) = 0) := by
    unfold Hid; rw [if_neg (by omega)]
  clear ho hL
  refine (callsIn_wide (n := 6)).1 (callsIn_of_wp_marks (F := Fence.wide) (n := 6) Tryd.func14 rfl trivial ?_ rfl)
  simp only [Tryd.ntmps14, List.size_toArray, List.length_cons, List.length_nil, Nat.reduceAdd, Nat.reduceSub, Array.replicate_succ, Array.replicate_zero, List.push_toArray, List.append_toArray, List.nil_append, List.cons_append]
  gi_wp2_with fail
  refine ⟨trivial, callsIn_wide.2 ((sectors6 L _ (by omega) (by omega)).mono ?_)⟩
  rintro x w1 ⟨rfl, rfl⟩
  rw [HSE.out]
  gi_wp2
  refine ⟨_, results_cell_cell rfl rfl rfl (v := .slice none 0 0) (x := .int .i64 2) ?_ ?_, rfl, ((Below.refl _ w).alloc (Nat.le_refl _) _).alloc (by simp) _⟩
  · have h6 : ((w.alloc (.cells #[.slice none 0 0] 22)).alloc (.cells #[.int .i64 2] 26)).cell? ⟨w.heap.size, 0, none⟩ = some (.slice none 0 0) := ((Boxed.new w 22 (.slice none 0 0)).alloc _).cell
    simp [loadVar, isAgg, run_underlying Tryd.underlying22, Result.andThen, h6, go_sem]
  · have h7 : ((w.alloc (.cells #[.slice none 0 0] 22)).alloc (.cells #[.int .i64 2] 26)).cell? ⟨w.heap.size + 1, 0, none⟩ = some (.int .i64 2) := by
      have := (Boxed.new (w.alloc (.cells #[.slice none 0 0] 22)) 26 (.int .i64 2)).cell
      rwa [World.size_alloc] at this
    simp [loadVar, isAgg, run_underlying Tryd.underlying26, Result.andThen, h7, go_sem]

/-- Ahead of the first round. -/
def cutNI (m : Nat) (D1 : Nat → Prop) (pre : List (Part × Value)) (X : World) : Prop :=
  D1 = (fun k => k = m ∨ k = m + 1) ∧ pre = [] ∧ Boxed X m 22 (.slice none 0 0) ∧ Boxed X (m + 1) 26 (.int .i64 0)
def cutNX (m : Nat) (c : Code) (D1 : Nat → Prop) (pre : List (Part × Value)) (X : World) : Prop :=
  c = .ret ∧ D1 = (fun k => k = m ∨ k = m + 1) ∧ Boxed X m 22 (.slice none 0 0) ∧ Boxed X (m + 1) 26 (.int .i64 2)
theorem cutNI_local (m : Nat) : Local (cutNI m) := by
  refine ⟨?_, ?_⟩
  · rintro D1 pre X ⟨rfl, hp, b1, b2⟩ k hk
    have := b1.lt
    have := b2.lt
    omega
  · rintro D1 pre X X' ⟨rfl, hp, b1, b2⟩ hk
    exact ⟨rfl, hp, (hk.block _ (.inl rfl)).trans b1, (hk.block _ (.inr rfl)).trans b2⟩
theorem cutNX_local (m : Nat) (c : Code) : Local (cutNX m c) := by
  refine ⟨?_, ?_⟩
  · rintro D1 pre X ⟨hc, rfl, b1, b2⟩ k hk
    have := b1.lt
    have := b2.lt
    omega
  · rintro D1 pre X X' ⟨hc, rfl, b1, b2⟩ hk
    exact ⟨hc, rfl, (hk.block _ (.inl rfl)).trans b1, (hk.block _ (.inr rfl)).trans b2⟩
theorem partOf_no {e n : Int} (h : okId e n = false) (zs : List Nat) : okP (partOf e n zs 0) = false := by
  cases hc : okP (partOf e n zs 0) with
  | false => rfl
  | true =>
    have := okP_right.1 hc
    have h2 : okId e n = true := okId_right.2 ⟨this.epoch, this.number⟩
    rw [h] at h2
    cases h2

set_option maxRecDepth 20000 in
set_option maxHeartbeats 1000000 in
theorem cut6_refused (e n : Int) (v : Value) (zs : List Nat) (w : World) (hid : okId e n = false) (ho : Octs w v zs) (hl1 : 1 ≤ zs.length) (hl2 : zs.length ≤ 65000) (ht : Steps w) :
    Calls Tryd.prog 14 #[.int .i64 e, .int .i64 n, v] w fun x w' => x = .returned (.tuple #[.slice none 0 0, .int .i64 2]) ∧ Below w.heap.size w w' := by
  obtain ⟨a, cap, rfl⟩ := ho.shape
  obtain ⟨bb, off, rfl, hbb, -⟩ := ho.addr hl1
  obtain ⟨L, hL⟩ : ∃ L, L = zs.length := ⟨_, rfl⟩
  rw [← hL] at ho hl1 hl2 ⊢
  have HO : Hid (Octs w (.slice (some ⟨bb, off, none⟩) L cap) zs) := ho
  have HT : Hid (Steps w) := ht
  have HID : Hid (okId e n = false) := hid
  have hcap := ho.capLe
  obtain ⟨C, hC⟩ : ∃ C, C = 128 * (partsN L + 1) := ⟨_, rfl⟩
  obtain ⟨S, hS⟩ : ∃ S, S = partsN L + 1 := ⟨_, rfl⟩
  have hpn : partsN L ≤ 600 := by unfold partsN; omega
  have HSE : Hid ((if 1 ≤ (L : Int) ∧ (L : Int) ≤ 65000 then ((L : Int) + 111) / 112 + 1 else 0) = (S : Nat)) := by
    unfold Hid; rw [if_pos (by omega), hS]; unfold partsN; omega
  have hS0 : ¬ (S : Int) = 0 := by omega
  have hSC : (S : Int) * 128 = (C : Nat) := by omega
  have hwC : IntKind.i64.wrap (C : Nat) = (C : Nat) := by rw [IntKind.wrap_i64]; omega
  have hmk := Tryd.make6 C (by omega)
  have HC : Hid (C ≤ 100000) := by unfold Hid; omega
  have HLE : Hid (L = zs.length) := hL
  have HCC : Hid (C = 128 * (partsN zs.length + 1)) := by unfold Hid; rw [hC, hL]
  have HLL : Hid ((1 : Nat) ≤ L ∧ L ≤ 65000) := ⟨hl1, hl2⟩
  clear ho ht hid hC hS hL hpn
  refine (callsIn_wide (n := 6)).1 (callsIn_of_wp_marks (F := Fence.wide) (n := 6) Tryd.func14 rfl trivial ?_ rfl)
  simp only [Tryd.ntmps14, List.size_toArray, List.length_cons, List.length_nil, Nat.reduceAdd, Nat.reduceSub, Array.replicate_succ, Array.replicate_zero, List.push_toArray, List.append_toArray, List.nil_append, List.cons_append]
  gi_wp2_with fail
  refine ⟨trivial, callsIn_wide.2 ((sectors6 L _ (by omega) (by omega)).mono ?_)⟩
  rintro x w1 ⟨rfl, rfl⟩
  rw [HSE.out]
  gi_wp2_with fail
  obtain ⟨V3, hV3⟩ : ∃ V3, V3 = (((w.alloc (.cells #[.slice none 0 0] 22)).alloc (.cells #[.int .i64 0] 26)).alloc (.cells (u8s (zl C)).toArray 5)).alloc (.cells #[.slice (some ⟨w.heap.size + 2, 0, none⟩) 0 C] 22) := ⟨_, rfl⟩
  have at1 : ∀ (A : World) (o : Obj) (k : Nat), k < A.heap.size → (A.alloc o).heap[k]? = A.heap[k]? := fun A o k hk => Below.heap_alloc A o k hk
  have hsz3 : V3.heap.size = w.heap.size + 4 := by rw [hV3]; simp
  have hB3 : Below w.heap.size w V3 := by
    rw [hV3]
    exact ((((Below.refl _ w).alloc (Nat.le_refl _) _).alloc (by simp) _).alloc (by simp <;> omega) _).alloc (by simp <;> omega) _
  have x6 : Boxed V3 w.heap.size 22 (.slice none 0 0) := by
    unfold Boxed; rw [hV3, at1 _ _ _ (by simp <;> omega), at1 _ _ _ (by simp <;> omega), at1 _ _ _ (by simp)]; exact World.alloc_heap_new w _
  have x7 : Boxed V3 (w.heap.size + 1) 26 (.int .i64 0) := by
    unfold Boxed; rw [hV3, at1 _ _ _ (by simp <;> omega), at1 _ _ _ (by simp)]
    have := World.alloc_heap_new (w.alloc (.cells #[.slice none 0 0] 22)) (.cells #[.int .i64 0] 26)
    rwa [World.size_alloc] at this
  have x8 : V3.heap[w.heap.size + 2]? = some (.cells (u8s (zl C)).toArray 5 (0, 0)) := by
    rw [hV3, at1 _ _ _ (by simp)]
    have := World.alloc_heap_new ((w.alloc (.cells #[.slice none 0 0] 22)).alloc (.cells #[.int .i64 0] 26)) (.cells (u8s (zl C)).toArray 5)
    rwa [World.size_alloc, World.size_alloc] at this
  have x9 : Boxed V3 (w.heap.size + 3) 22 (.slice (some ⟨w.heap.size + 2, 0, none⟩) 0 C) := by
    unfold Boxed; rw [hV3]
    have := World.alloc_heap_new (((w.alloc (.cells #[.slice none 0 0] 22)).alloc (.cells #[.int .i64 0] 26)).alloc (.cells (u8s (zl C)).toArray 5)) (.cells #[.slice (some ⟨w.heap.size + 2, 0, none⟩) 0 C] 22)
    rwa [World.size_alloc, World.size_alloc, World.size_alloc] at this
  have hV3' := hV3
  rw [show w.heap.size + 2 = w.heap.size + 1 + 1 from rfl] at hV3'
  rw [← hV3']
  clear hV3 hV3' at1
  have HSZ3 : Hid (V3.heap.size = w.heap.size + 4) := hsz3
  clear hsz3
  refine ⟨trivial, callsIn_wide.2 ((parts_v V3 e n _ (some ⟨bb, off, none⟩) L cap rfl).mono ?_)⟩
  rintro x V00 ⟨rfl, rfl⟩
  gi_wp2_with fail
  obtain ⟨V0, hV0⟩ : ∃ V0, V0 = ((V3.alloc (.cells #[.int .i64 e] 3)).alloc (.cells #[.int .i64 n] 3)).alloc (.cells #[.slice (some ⟨bb, off, none⟩) L cap] 22) := ⟨_, rfl⟩
  rw [← hV0]
  have hsz3 := HSZ3.out
  have hsz0 : V0.heap.size = w.heap.size + 7 := by rw [hV0]; simp; omega
  have hB0 : Below V3.heap.size V3 V0 := by rw [hV0]; exact (((Below.refl _ V3).alloc (Nat.le_refl _) _).alloc (by simp) _).alloc (by simp <;> omega) _
  have y1 : Boxed V0 V3.heap.size 3 (.int .i64 e) := by rw [hV0]; exact ((Boxed.new V3 _ _).alloc _).alloc _
  have y2 : Boxed V0 (V3.heap.size + 1) 3 (.int .i64 n) := by
    rw [hV0]
    have := (Boxed.new (V3.alloc (.cells #[.int .i64 e] 3)) 3 (.int .i64 n)).alloc (.cells #[.slice (some ⟨bb, off, none⟩) L cap] 22)
    rwa [World.size_alloc] at this
  have y3 : Boxed V0 (V3.heap.size + 2) 22 (.slice (some ⟨bb, off, none⟩) L cap) := by
    rw [hV0]
    have := Boxed.new ((V3.alloc (.cells #[.int .i64 e] 3)).alloc (.cells #[.int .i64 n] 3)) 22 (.slice (some ⟨bb, off, none⟩) L cap)
    rwa [World.size_alloc, World.size_alloc] at this
  clear hV0
  have hBw : Below w.heap.size w V0 := hB3.trans (hB0.mono (by omega))
  obtain ⟨m, hm⟩ : ∃ m, m = w.heap.size := ⟨_, rfl⟩
  have I0 : cutNI m (fun k => k = m ∨ k = m + 1) [] V0 := by
    refine ⟨rfl, rfl, ?_, ?_⟩
    · rw [hm]; exact (hB0.block _ (by omega)).trans x6
    · rw [hm]; exact (hB0.block _ (by omega)).trans x7
  refine wpIn_rangeSep (n := 6) (gf := 47) (lb := #[.pointer (some ⟨V3.heap.size, 0, none⟩), .pointer (some ⟨V3.heap.size + 1, 0, none⟩), .pointer (some ⟨V3.heap.size + 2, 0, none⟩)]) rfl (enters_of Tryd.func47 (by kernel_rfl) rfl)
    (parts_seq w V3.heap.size (V3.heap.size + 1) (V3.heap.size + 2) bb off L cap e n zs HO.out hl1 hl2 HT.out V0 hBw (fun k => k < m ∨ m + 4 ≤ k ∧ k < m + 7) (.inr (by omega)) (.inr (by omega)) (.inr (by omega)) (fun k hk => .inl (by omega)) (fun k hk => by omega) y1.cell y2.cell y3.cell)
    (Kept.refl _ _) (fun k hk => by omega) (fun _ => rfl) (cutNI m) (cutNX m) (cutNI_local _) (cutNX_local _) (fun k => k = m ∨ k = m + 1) (fun k hk hd => by omega) I0 ?round ?done ?stop
  case round =>
    rintro l D1 pre ⟨p, y⟩ X hlw hnl hlo ⟨rfl, rfl, b1, b2⟩ ⟨⟨hoc, hpart⟩, hkR⟩
    dsimp only at hoc hpart
    obtain ⟨pa, pc, rfl⟩ := hoc.shape
    have hok : okP p = false := by
      rcases hpart with ⟨h, rfl⟩ | ⟨h, rfl⟩
      · exact partOf_no HID.out zs
      · exfalso
        have h' : 0 = partsN zs.length := h
        rw [← HLE.out] at h'
        unfold partsN at h'
        omega
    gi_wp2
    refine ⟨(Below.refl _ _).alloc (Nat.le_refl _) _, fun V hVk hVs => ?_⟩
    subst hm
    have hX2 : w.heap.size + 1 < X.heap.size := b2.lt
    have hWa : Below X.heap.size X (X.alloc (.cells #[.bool p.foot, .int .i64 p.epoch, .int .i64 p.number, .int .i64 p.index, .slice pa p.data.length pc] 24)) := (Below.refl _ _).alloc (Nat.le_refl _) _
    have hlX : l < X.heap.size := by obtain ⟨r, h⟩ := hlo; exact lt_of_heap h
    have hXV : Kept (fun k => k < X.heap.size ∧ k ≠ l) X V := (Kept.ofBelow hWa fun k hk => hk.1).trans (hVk.mono fun k hk => hk.2)
    have bPV : PA V X.heap.size p.foot p.epoch p.number p.index (.slice pa p.data.length pc) := (hVk.block _ (show X.heap.size ≠ l by omega)).trans (heap_alloc_new X _)
    have hocV : Octs V (.slice pa p.data.length pc) p.data := hoc.only (loop_noOct hlo) hXV
    have v6 : Boxed V w.heap.size 22 (.slice none 0 0) := (hXV.block _ ⟨by omega, by omega⟩).trans b1
    have v7 : Boxed V (w.heap.size + 1) 26 (.int .i64 0) := (hXV.block _ ⟨by omega, by omega⟩).trans b2
    have hVs' : X.heap.size < V.heap.size := bPV.lt
    obtain ⟨q0, q1, q2, q3, q4⟩ := bPV.cells
    have H6 : Hid (Boxed V w.heap.size 22 (.slice none 0 0) ∧ Boxed V (w.heap.size + 1) 26 (.int .i64 0)) := ⟨v6, v7⟩
    have HOK : Hid (okP p = false) := hok
    have HXs : Hid (w.heap.size + 1 < X.heap.size ∧ X.heap.size < V.heap.size) := ⟨hX2, hVs'⟩
    have HOC : Hid (Octs V (.slice pa p.data.length pc) p.data) := hocV
    clear v6 v7 hok hocV hoc hpart hkR b1 b2 hVk hXV hWa hVs hVs' bPV
    gi_wp2_with fail
    refine ⟨trivial, CallsIn.inRound l (callsIn_wide.2 ((put6_no p _ V HOK.out HOC.out).mono ?_))⟩
    rintro x W4 ⟨rfl, hb4⟩
    have u6 : Boxed W4 w.heap.size 22 (.slice none 0 0) := (hb4.block _ H6.out.1.lt).trans H6.out.1
    have u7 : Boxed W4 (w.heap.size + 1) 26 (.int .i64 0) := (hb4.block _ H6.out.2.lt).trans H6.out.2
    obtain ⟨W6, hW6⟩ : ∃ W6, W6 = (W4.setCell ⟨w.heap.size, 0, none⟩ (.slice none 0 0)).setCell ⟨w.heap.size + 1, 0, none⟩ (.int .i64 2) := ⟨_, rfl⟩
    have t6 : Boxed W6 w.heap.size 22 (.slice none 0 0) := by rw [hW6]; exact (u6.set _).other (by omega) _
    have t7 : Boxed W6 (w.heap.size + 1) 26 (.int .i64 2) := by rw [hW6]; exact (u7.other (by omega) _).set _
    have k6 : Kept (fun k => k < X.heap.size ∧ ¬ (k = w.heap.size ∨ k = w.heap.size + 1)) V W6 := by
      rw [hW6]
      have k1 : Kept (fun k => k < X.heap.size ∧ ¬ (k = w.heap.size ∨ k = w.heap.size + 1)) V W4 := Kept.ofBelow hb4 fun k hk => by have := hk.1; have := HXs.out.2; omega
      exact (k1.setCell (p := ⟨w.heap.size, 0, none⟩) (fun hk => hk.2 (.inl rfl)) _).setCell (p := ⟨w.heap.size + 1, 0, none⟩) (fun hk => hk.2 (.inr rfl)) _
    have HFIN : Hid (Kept (fun k => k < X.heap.size ∧ ¬ (k = w.heap.size ∨ k = w.heap.size + 1)) V W6 ∧ ∃ D', cutNX w.heap.size .ret D' ([] ++ [(p, .slice pa p.data.length pc)]) W6 ∧ Grew (fun k => k = w.heap.size ∨ k = w.heap.size + 1) D' X.heap.size) :=
      ⟨k6, _, ⟨rfl, rfl, t6, t7⟩, Grew.refl _ _⟩
    have HW6 : Hid (W6 = (W4.setCell ⟨w.heap.size, 0, none⟩ (.slice none 0 0)).setCell ⟨w.heap.size + 1, 0, none⟩ (.int .i64 2)) := hW6
    have c6 := u6.cell
    have f6 := u6.frozen
    have c7 := u7.cell
    have f7 := u7.frozen
    clear hb4 u6 u7 hW6 t6 t7 k6 q0 q1 q2 q3 q4
    gi_wp2
    rw [← HW6.out]
    exact HFIN.out
  case done =>
    rintro dd D1 xs X hdd hnd hS ⟨rfl, rfl, b1, b2⟩
    cases hS
  case stop =>
    rintro dd c D1 pre X hdd hnd _ ⟨rfl, rfl, b1, b2⟩ hgr hsp hK
    subst hm
    have hX3 : w.heap.size + 1 < X.heap.size := b2.lt
    have hddX : dd < X.heap.size := lt_of_heap hK
    have hBX : Below w.heap.size w X := hBw.trans (hsp.below fun k hk => ⟨by omega, by omega⟩)
    have HBY : Hid (Below w.heap.size w (X.putObj dd (.deferred none))) := hBX.grown (grownBy_putObj' X dd _) hBX.size (fun k e => by cases e; omega)
    have HP6 : Hid ((X.putObj dd (.deferred none)).cell? ⟨w.heap.size, 0, none⟩ = some (.slice none 0 0) ∧ (X.putObj dd (.deferred none)).cell? ⟨w.heap.size + 1, 0, none⟩ = some (.int .i64 2)) :=
      ⟨(World.cell?_of_block (w := X) (a := ⟨w.heap.size, 0, none⟩) (World.putObj_heap_other (show w.heap.size ≠ dd by omega))).trans b1.cell, (World.cell?_of_block (w := X) (a := ⟨w.heap.size + 1, 0, none⟩) (World.putObj_heap_other (show w.heap.size + 1 ≠ dd by omega))).trans b2.cell⟩
    clear b1 b2 hsp hgr hBX
    gi_wp2
    refine ⟨by simp, .inl ⟨_, _, rfl, run_takeDeferred hK, ?_⟩⟩
    have hl6 : (loadVar 22 ⟨w.heap.size, 0, none⟩).run Tryd.prog (X.putObj dd (.deferred none)) = .ok (.slice none 0 0) (X.putObj dd (.deferred none)) := by simp [loadVar, isAgg, run_underlying Tryd.underlying22, Result.andThen, HP6.out.1, go_sem]
    have hl7 : (loadVar 26 ⟨w.heap.size + 1, 0, none⟩).run Tryd.prog (X.putObj dd (.deferred none)) = .ok (.int .i64 2) (X.putObj dd (.deferred none)) := by simp [loadVar, isAgg, run_underlying Tryd.underlying26, Result.andThen, HP6.out.2, go_sem]
    exact ⟨_, results_cell_cell rfl rfl rfl hl6 hl7, rfl, HBY.out⟩
/-- Cut where it refuses. -/
theorem cut6_no (e n : Int) (v : Value) (zs : List Nat) (w : World) (hno : okId e n = false ∨ zs.length = 0 ∨ 65000 < zs.length) (ho : Octs w v zs) (ht : Steps w) :
    Calls Tryd.prog 14 #[.int .i64 e, .int .i64 n, v] w fun x w' => x = .returned (.tuple #[.slice none 0 0, .int .i64 2]) ∧ Below w.heap.size w w' := by
  by_cases h : zs.length = 0 ∨ 65000 < zs.length
  · exact cut6_none e n v zs w ho h
  · rcases hno with h1 | h1 | h1
    · exact cut6_refused e n v zs w h1 ho (by omega) (by omega) ht
    · exact absurd (.inl h1) h
    · exact absurd (.inr h1) h
end Go.Proofs.YtndeknkfljnjoaaDoor

/- Contract of the program's 'Join'. -/
namespace Go.Proofs.YtndeknkfljnjoaaDoor
open Go.RowKit Go.Shelf
set_option linter.unusedVariables false
attribute [local go_sem] Oper.semAt_some

/-- Between two rounds: the payload so far, in its box. -/
def joinI (m : Nat) (zs : List Nat) (D1 : Nat → Prop) (pre : List Value) (X : World) : Prop :=
  ∃ v : Value, D1 = (fun k => k = m ∨ v.ownBlock = some k) ∧ v.ownBlock ≠ some m ∧ Boxed X m 22 v ∧ X.ownsRow m 5 1 v (payN zs pre.length).length (u8s (payN zs pre.length))
theorem joinI_local (m : Nat) (zs : List Nat) : Local (joinI m zs) := by
  refine ⟨?_, ?_⟩
  · rintro D1 pre X ⟨v, rfl, hv, b1, ho⟩ k hk
    rcases hk with rfl | hk
    · exact b1.lt
    · exact (ho.lt k hk).2
  · rintro D1 pre X X' ⟨v, rfl, hv, b1, ho⟩ hk
    exact ⟨v, rfl, hv, (hk.block _ (.inl rfl)).trans b1, ownsRow_same ho fun g hg => hk.block g (.inr hg)⟩

set_option maxRecDepth 20000 in
set_option maxHeartbeats 1000000 in
theorem join6 (v : Value) (zs : List Nat) (e n : Int) (w : World) (ho : Octs w v zs) (hl : zs.length ≤ 60000) (ht : Steps w) :
    Calls Tryd.prog 17 #[v, .int .i64 e, .int .i64 n] w fun x w' => ∃ u, x = .returned (.tuple #[u, .int .i64 (joinK (joinS zs e n) : Nat)]) ∧ Octs w' u (joinP (joinS zs e n)) ∧ Below w.heap.size w w' := by
  obtain ⟨a, cap, rfl⟩ := ho.shape
  have hcap := ho.capLe
  obtain ⟨L, hL⟩ : ∃ L, L = zs.length := ⟨_, rfl⟩
  rw [← hL] at ho hl hcap ⊢
  obtain ⟨bb, off, ha⟩ : ∃ bb off, 0 < L → a = some ⟨bb, off, none⟩ := by
    by_cases h0 : 0 < L
    · obtain ⟨bb, off, h, -⟩ := ho.addr h0
      exact ⟨bb, off, fun _ => h⟩
    · exact ⟨0, 0, fun h => absurd h h0⟩
  have HO : Hid (Octs w (.slice a L cap) zs) := ho
  have HT : Hid (Steps w) := ht
  have HLE : Hid (L = zs.length) := hL
  have HSE : Hid ((if (1 : Int) ≤ 65000 ∧ (65000 : Int) ≤ 65000 then ((65000 : Int) + 111) / 112 + 1 else 0) = 582) := by unfold Hid; decide
  have hm1 : ¬ (74496 : Int) < (L : Nat) := by omega
  have hm2 : (if (74496 : Int) < (L : Nat) then (74496 : Int) else (L : Nat)) = (L : Nat) := if_neg hm1
  have hc1 : (0 : Int) ≤ (L : Nat) := by omega
  have hc2 : (L : Int) ≤ (cap : Nat) := by omega
  clear ho ht hL
  refine (callsIn_wide (n := 6)).1 (callsIn_of_wp_marks (F := Fence.wide) (n := 6) Tryd.func17 rfl trivial ?_ rfl)
  simp only [Tryd.ntmps17, List.size_toArray, List.length_cons, List.length_nil, Nat.reduceAdd, Nat.reduceSub, Array.replicate_succ, Array.replicate_zero, List.push_toArray, List.append_toArray, List.nil_append, List.cons_append]
  gi_wp2_with fail
  refine ⟨trivial, callsIn_wide.2 ((sectors6 65000 _ (by omega) (by omega)).mono ?_)⟩
  rintro x w1 ⟨rfl, hw1⟩
  rw [HSE.out, hw1]
  clear hw1
  gi_wp2_with fail
  refine ⟨trivial, callsIn_wide.2 ((pieces_v _ _ a L cap rfl).mono ?_)⟩
  rintro x V00 ⟨rfl, rfl⟩
  gi_wp2_with fail
  obtain ⟨V0, hV0⟩ : ∃ V0, V0 = (w.alloc (.cells #[.slice none 0 0] 22)).alloc (.cells #[.slice a L cap] 22) := ⟨_, rfl⟩
  rw [← hV0]
  have hsz0 : V0.heap.size = w.heap.size + 2 := by rw [hV0]; simp
  have hBw : Below w.heap.size w V0 := by rw [hV0]; exact ((Below.refl _ w).alloc (Nat.le_refl _) _).alloc (by simp) _
  have x0 : Boxed V0 w.heap.size 22 (.slice none 0 0) := by rw [hV0]; exact (Boxed.new w _ _).alloc _
  have x1 : Boxed V0 (w.heap.size + 1) 22 (.slice a L cap) := by
    rw [hV0]
    have := Boxed.new (w.alloc (.cells #[.slice none 0 0] 22)) 22 (.slice a L cap)
    rwa [World.size_alloc] at this
  have HSZ : Hid (V0.heap.size = w.heap.size + 2) := hsz0
  clear hV0 hsz0
  have I0 : joinI w.heap.size zs (fun k => k = w.heap.size) [] V0 := by
    refine ⟨.slice none 0 0, ?_, by simp [Value.ownBlock], x0, World.ownsRow_nil _ _ _ _⟩
    funext k
    simp [Value.ownBlock]
  refine wpIn_rangeSep (n := 6) (gf := 50) (lb := #[.pointer (some ⟨w.heap.size + 1, 0, none⟩)]) rfl (enters_of Tryd.func50 (by kernel_rfl) rfl)
    (pieces_seq w (w.heap.size + 1) bb off L cap a ha zs HO.out (by omega) HT.out V0 hBw (fun k => k < w.heap.size ∨ k = w.heap.size + 1) (.inr rfl) (fun k hk => .inl hk) (fun k hk => by have := HSZ.out; omega) x1.cell)
    (Kept.refl _ _) (fun k hk => by have := HSZ.out; omega) (fun _ => rfl) (joinI w.heap.size zs) (fun _ _ _ _ => False) (joinI_local _ _) (fun _ => false_local) (fun k => k = w.heap.size) (fun k hk hd => by omega) I0 ?round ?done ?stop
  case round =>
    rintro l D1 pre y X hlw hnl hlo ⟨v, rfl, hvm, b1, hown⟩ ⟨⟨hoc, hgo⟩, hkR⟩
    obtain ⟨d, hd⟩ : ∃ d, d = dataP (getP (secAt6 zs pre.length)) := ⟨_, rfl⟩
    rw [← hd] at hoc
    obtain ⟨pa, pc, rfl⟩ := hoc.shape
    obtain ⟨pv, hpv⟩ : ∃ pv, pv = payN zs pre.length := ⟨_, rfl⟩
    rw [← hpv] at hown
    have HNX : Hid (payN zs (pre.length + 1) = pv ++ d) := by unfold Hid; rw [hpv, hd]; rfl
    have HPL : Hid (pv.length + d.length ≤ 140737488355328) := by
      unfold Hid
      have h1 := payN_length zs pre.length
      have h2 := dataP_length (secAt6 zs pre.length)
      have h3 := (hgo pre.length (Nat.le_refl _)).1
      rw [← hpv] at h1
      rw [← hd] at h2
      rw [← HLE.out] at h3
      omega
    have hd0 := hoc.len
    clear hd hpv
    gi_wp2
    refine ⟨Below.refl _ _, fun V hVk hVs => ?_⟩
    have hlX : l < X.heap.size := by obtain ⟨r, h⟩ := hlo; exact lt_of_heap h
    have nlm : w.heap.size ≠ l := fun e => hnl (.inl e.symm)
    have nlv : v.ownBlock ≠ some l := fun e => hnl (.inr e)
    have hXV : Kept (fun k => k < X.heap.size ∧ k ≠ l) X V := hVk.mono fun k hk => hk.2
    have hocV : Octs V (.slice pa d.length pc) d := hoc.only (loop_noOct hlo) hXV
    have v1 : Boxed V w.heap.size 22 v := (hVk.block _ nlm).trans b1
    have vown : V.ownsRow w.heap.size 5 1 v pv.length (u8s pv) := ownsRow_same hown fun g hg => hVk.block g (fun e => nlv (e ▸ hg))
    have HV1 : Hid (Boxed V w.heap.size 22 v) := v1
    have HVM : Hid (v.ownBlock ≠ some w.heap.size) := hvm
    have HVS : Hid (V.heap.size = X.heap.size) := hVs
    have HOW : Hid (V.ownsRow w.heap.size 5 1 v pv.length (u8s pv)) := vown
    have HOC : Hid (Octs V (.slice pa d.length pc) d) := hocV
    have HBV : Hid (w.heap.size ≤ V.heap.size) := Nat.le_of_lt v1.lt
    obtain ⟨i0, hi, hz0, hz1, hz2⟩ := info_parts Tryd.infoU8'
    have c1 := v1.cell
    have f1 := v1.frozen
    clear hoc hgo hkR hown hvm b1 hVk hVs hXV hocV v1 vown nlm nlv
    gi_wp2_with (gi_at_builtin; refine wpListIn_append_octs_at _ rfl _ _ 22 rfl w.heap.size 5 i0 Tryd.underlying22 hi hz0 hz1 hz2 v pv.length pv rfl HOW.out _ d rfl HOC.out HPL.out HBV.out ?_)
    intro v5 W5 hown5 hg5 hat
    have hs5 : V.heap.size ≤ W5.heap.size := hg5.size
    have hsm : ∀ z ∈ pv ++ d, z < 256 := by rw [← HNX.out]; exact payN_small HO.out.small _
    obtain ⟨va, vc, hv5⟩ := (Octs.owned hown5 hsm).shape
    subst hv5
    have b5 : Boxed W5 w.heap.size 22 v := HV1.out.kept hg5 (fun e => HVM.out e.symm)
    have c5 := b5.cell
    have f5 := b5.frozen
    obtain ⟨W6, hW6⟩ : ∃ W6, W6 = W5.setCell ⟨w.heap.size, 0, none⟩ (.slice va (pv ++ d).length vc) := ⟨_, rfl⟩
    have b6 : Boxed W6 w.heap.size 22 (.slice va (pv ++ d).length vc) := by rw [hW6]; exact b5.set _
    have hvm5 : (Value.slice va (pv ++ d).length vc).ownBlock ≠ some w.heap.size := fun e => by
      rcases hat with h | h
      · exact HVM.out (h ▸ e)
      · rw [e] at h
        have h1 := HV1.out.lt
        simp only [Option.some.injEq] at h
        omega
    have own6 : W6.ownsRow w.heap.size 5 1 (.slice va (pv ++ d).length vc) (pv ++ d).length (u8s (pv ++ d)) := by
      rw [hW6]
      have h1 : W5.ownsRow w.heap.size 5 1 (.slice va (pv ++ d).length vc) (pv ++ d).length (u8s (pv ++ d)) := by
        have := hown5
        rwa [← List.length_append] at this
      exact ownsRow_same h1 fun g hg => Below.heap_setCell _ _ _ _ (show g ≠ w.heap.size from fun e => hvm5 (e ▸ hg))
    have k6 : Kept (fun k => k < X.heap.size ∧ ¬ (k = w.heap.size ∨ v.ownBlock = some k)) V W6 := by
      rw [hW6]
      exact ((Kept.refl _ V).grown hg5 fun k hk => ⟨by have h1 := hk.1; have h2 := HVS.out; omega, fun e => hk.2 (.inr e)⟩).setCell (p := ⟨w.heap.size, 0, none⟩) (fun hk => hk.2 (.inl rfl)) _
    have HFIN : Hid (Kept (fun k => k < X.heap.size ∧ ¬ (k = w.heap.size ∨ v.ownBlock = some k)) V W6 ∧ ∃ D', joinI w.heap.size zs D' (pre ++ [.slice pa d.length pc]) W6 ∧ Grew (fun k => k = w.heap.size ∨ v.ownBlock = some k) D' X.heap.size) := by
      have hlen : (pre ++ [Value.slice pa d.length pc]).length = pre.length + 1 := by rw [List.length_append]; rfl
      refine ⟨k6, _, ⟨_, rfl, hvm5, b6, by rw [hlen, HNX.out]; exact own6⟩, fun k hk => ?_⟩
      rcases hk with hk | hk
      · exact .inl (.inl hk)
      · rcases hat with h | h
        · exact .inl (.inr (h ▸ hk))
        · right
          rw [h] at hk
          simp only [Option.some.injEq] at hk
          have := HVS.out
          omega
    have HW6 : Hid (W6 = W5.setCell ⟨w.heap.size, 0, none⟩ (.slice va (pv ++ d).length vc)) := hW6
    clear hown5 hg5 hat hs5 hsm b5 hW6 b6 hvm5 own6 k6 c1 f1
    generalize (pv ++ d).length = T at *
    gi_wp2
    rw [← HW6.out]
    exact HFIN.out
  case done =>
    rintro dd D1 xs X hdd hnd hS ⟨v, rfl, hvm, b1, hown⟩ hgr hsp hK
    obtain ⟨P, hP⟩ : ∃ P, P = payN zs xs.length := ⟨_, rfl⟩
    have hJ := join_prog zs e n xs.length hS.1 hS.2
    rw [← hP] at hown hJ
    have hsm : ∀ z ∈ P, z < 256 := by rw [hP]; exact payN_small HO.out.small _
    have hoP : Octs X v P := Octs.owned hown hsm
    obtain ⟨pa, pc, hv⟩ := hoP.shape
    subst hv
    have hX0 : w.heap.size < X.heap.size := b1.lt
    have hddX : dd < X.heap.size := lt_of_heap hK
    have hBX : Below w.heap.size w X := hBw.trans (hsp.below fun k hk => ⟨by have := HSZ.out; omega, by omega⟩)
    have hdw : w.heap.size ≤ dd := by have := HSZ.out; omega
    have HTX : Hid (Steps X) := HT.out.below hBX
    have HPX : Hid (Octs X (.slice pa P.length pc) P) := hoP
    have HJ : Hid (joinS zs e n = if okId e n = true ∧ (1 ≤ P.length ∧ P.length ≤ 65000) ∧ isPre (cutS e n P) zs = true then some (P, partsN P.length + 1) else none) := hJ
    have HKD : Hid (X.heap[dd]? = some (.deferred (some []))) := hK
    have HBX : Hid (Below w.heap.size w X) := hBX
    have HB1 : Hid (Boxed X w.heap.size 22 (.slice pa P.length pc)) := b1
    have HEND : Hid (∀ W5 : World, Below X.heap.size X W5 → W5.heap[dd]? = some (.deferred (some [])) ∧ Below w.heap.size w (W5.putObj dd (.deferred none)) ∧ Octs (W5.putObj dd (.deferred none)) (.slice pa P.length pc) P) := fun W5 h5 => by
      have h1 : W5.heap[dd]? = some (.deferred (some [])) := (h5.block dd hddX).trans hK
      have h2 : Below w.heap.size w W5 := hBX.trans (h5.mono hBX.size)
      refine ⟨h1, h2.grown (grownBy_putObj' W5 dd _) h2.size (fun k e => by cases e; omega), ?_⟩
      refine (hoP.kept h5).only (p := dd) (fun i z e => ?_) ((Only.refl _ _).trans ?_)
      · simp [World.cell?, h1] at e
      · exact Kept.putObj _ _ _ _ (fun h => h.2 rfl) (fun k hk => hk.1)
    have c1 := b1.cell
    clear hvm hown hgr hsp hK hP hJ hsm hoP b1 hBX hS hnd
    gi_wp2_with fail
    by_cases hno : okId e n = false ∨ P.length = 0 ∨ 65000 < P.length
    · have HV : Hid (joinS zs e n = none) := by
        unfold Hid
        rw [HJ.out, if_neg]
        rintro ⟨h1, h2, -⟩
        rcases hno with h | h | h
        · rw [h] at h1; cases h1
        · omega
        · omega
      refine ⟨trivial, callsIn_wide.2 ((cut6_no e n _ P X hno HPX.out HTX.out).mono ?_)⟩
      rintro x W5 ⟨rfl, hb5⟩
      obtain ⟨e1, e2, e3⟩ := HEND.out W5 hb5
      have HE : Hid (Below w.heap.size w (W5.putObj dd (.deferred none))) := e2
      clear hno hb5 HEND e2 e3
      gi_wp2
      refine ⟨trivial, ?_⟩
      gi_wp2
      refine ⟨by simp, .inl ⟨_, _, rfl, run_takeDeferred e1, ?_⟩⟩
      exact ⟨_, results_tmp2 rfl _ _ _, _, (by rw [HV.out]; rfl), (by rw [HV.out]; exact octs_nil _), HE.out⟩
    · have hid : okId e n = true := by cases h : okId e n with
        | true => rfl
        | false => exact absurd (.inl h) hno
      have hl1 : 1 ≤ P.length := by omega
      have hl2 : P.length ≤ 65000 := by omega
      refine ⟨trivial, callsIn_wide.2 ((cut6_ok e n _ P X hid HPX.out hl1 hl2 HTX.out).mono ?_)⟩
      rintro x W5 ⟨u, rfl, hu, hb5⟩
      obtain ⟨ua, uc, hush⟩ := hu.shape
      subst hush
      have hoz : Octs W5 (.slice a L cap) zs := (HO.out.kept HBX.out).kept (hb5.mono (Nat.le_refl _))
      obtain ⟨T, hT⟩ : ∃ T, T = (cutS e n P).length := ⟨_, rfl⟩
      rw [← hT] at hu ⊢
      have hTe : T = 128 * (partsN P.length + 1) := by rw [hT, cutS_length]
      have hpn : partsN P.length ≤ 600 := by unfold partsN; omega
      have HU : Hid (Octs W5 (.slice ua T uc) (cutS e n P)) := hu
      have HZ : Hid (Octs W5 (.slice a L cap) zs) := hoz
      have HB5 : Hid (Below X.heap.size X W5) := hb5
      have HOK : Hid (okId e n = true ∧ 1 ≤ P.length ∧ P.length ≤ 65000) := ⟨hid, hl1, hl2⟩
      obtain ⟨e1, e2, e3⟩ := HEND.out W5 hb5
      have HE : Hid (Below w.heap.size w (W5.putObj dd (.deferred none)) ∧ Octs (W5.putObj dd (.deferred none)) (.slice pa P.length pc) P) := ⟨e2, e3⟩
      have c5 : W5.cell? ⟨w.heap.size, 0, none⟩ = some (.slice pa P.length pc) := (hb5.cell (p := ⟨w.heap.size, 0, none⟩) hX0).trans c1
      obtain ⟨Q, hQ⟩ : ∃ Q, Q = partsN P.length + 1 := ⟨_, rfl⟩
      have HQ : Hid (partsN P.length + 1 = Q) := hQ.symm
      have hdiv : (T : Int).tdiv 128 = (Q : Nat) := by rw [Int.tdiv_eq_ediv_of_nonneg (by omega)]; omega
      have hw1 : IntKind.i64.wrap (Q : Nat) = (Q : Nat) := by rw [IntKind.wrap_i64]; omega
      clear hno hb5 HEND e2 e3 hu hoz hid hl1 hl2 hT hTe hQ hpn
      gi_wp2_with fail
      refine ⟨trivial, callsIn_wide.2 ((hasPrefix_octs _ _ _ _ _ HZ.out HU.out).mono ?_)⟩
      rintro x W6 ⟨rfl, rfl⟩
      cases hpre : isPre (cutS e n P) zs with
      | true =>
        have HV : Hid (joinS zs e n = some (P, Q)) := by
          unfold Hid
          rw [HJ.out, if_pos ⟨HOK.out.1, HOK.out.2, hpre⟩, HQ.out]
        clear hpre
        gi_wp2
        refine ⟨by simp, .inl ⟨_, _, rfl, run_takeDeferred e1, ?_⟩⟩
        exact ⟨_, results_tmp2 rfl _ _ _, _, (by rw [HV.out]; rfl), (by rw [HV.out]; exact HE.out.2), HE.out.1⟩
      | false =>
        have HV : Hid (joinS zs e n = none) := by
          unfold Hid
          rw [HJ.out, if_neg]
          rintro ⟨-, -, h⟩
          rw [hpre] at h
          cases h
        clear hpre
        gi_wp2
        refine ⟨by simp, .inl ⟨_, _, rfl, run_takeDeferred e1, ?_⟩⟩
        exact ⟨_, results_tmp2 rfl _ _ _, _, (by rw [HV.out]; rfl), (by rw [HV.out]; exact octs_nil _), HE.out.1⟩
  case stop =>
    rintro dd c D1 pre X _ _ _ h
    exact h.elim
end Go.Proofs.YtndeknkfljnjoaaDoor

/- The bundle of layer 6's contracts, shown of the landed package. -/
namespace Go.Proofs.YtndeknkfljnjoaaDoor
open Go.RowKit
set_option linter.unusedVariables false

theorem rec6 : Rec6 where
  sectors n w h1 h2 := (sectors6 n w h1 h2).mono fun e w' ⟨h, k⟩ => ⟨h, by rw [k]; exact Below.refl _ _⟩
  put_ok p v w h1 h2 h3 := put6_ok p v w h1 h2 h3
  put_no p v w h1 h2 _ _ _ := (put6_no p v w h1 h2).mono fun e w' ⟨h, k⟩ => ⟨_, h, octs_nil _, k⟩
  get v zs w h1 _ h3 := get6 v zs w h1 h3
  cut_ok e n v zs w h1 h2 h3 h4 h5 := cut6_ok e n v zs w h1 h2 h3 h4 h5
  cut_no e n v zs w h1 h2 _ h4 _ _ := (cut6_no e n v zs w h1 h2 h4).mono fun x w' ⟨h, k⟩ => ⟨_, h, octs_nil _, k⟩
  join v zs e n w h1 h2 h3 _ _ := join6 v zs e n w h1 h2 h3
end Go.Proofs.YtndeknkfljnjoaaDoor
