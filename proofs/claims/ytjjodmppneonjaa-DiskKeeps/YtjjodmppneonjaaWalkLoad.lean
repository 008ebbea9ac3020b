/- The contract of 'Load'. -/
import Derived.Test.YtjjodmppneonjaaWalkSectors
import Derived.Test.YtjjodmppneonjaaRoundHeld
namespace Go.Proofs.Ytjjodmppneonjaa
open Go.RowKit Go.Shelf
set_option linter.unusedVariables false
attribute [local go_sem] Oper.semAt_some

def valW {m : Nat} (ps : List (Al m)) : List Wr := ps.map Subtype.val
theorem valW_snoc {m : Nat} (ps : List (Al m)) (x : Al m) : valW (ps ++ [x]) = valW ps ++ [x.1] := by simp [valW]
def loadSt (m : Nat) (ps : List Wr) : St := { n := m, safe := applyW (fun _ => Sec.zero) ps, waits := [], written := 0, left := -1 }

theorem cells_of_cell {w : World} {b o : Nat} {v : Value} (h : w.cell? ⟨b, o, none⟩ = some v) : ∃ c t f, w.heap[b]? = some (.cells c t f) := by
  unfold World.cell? at h
  cases hb : w.heap[b]? with
  | none => simp [hb] at h
  | some ob =>
    cases ob with
    | cells c t f => exact ⟨c, t, f, rfl⟩
    | _ => simp [hb] at h
/-- It abides the turn of a block that is no cells and lies beyond its map. -/
theorem IsDisk.own {K : Nat → Prop} {A B : World} {L : Loc} {S : St} {row : Option Nat} {B0 : Nat} (h : IsDisk K A L S) (hg : A.grownBy B row) (hr : ∀ r, row = some r → B0 ≤ r ∧ ∃ o : Obj, A.heap[r]? = some o ∧ o.isCells = false) (hmb : L.mb < B0) : IsDisk K B L S := by
  refine h.same hg.size (fun k hk hf => hg.block k hk (fun e => ?_))
  obtain ⟨h1, o, ho, hc⟩ := hr k e.symm
  have key : ∀ c t f, A.heap[k]? = some (.cells c t f) → False := fun c t f hh => by rw [hh] at ho; cases ho; cases hc
  rcases hf with rfl | rfl | rfl | hf
  · exact key _ _ _ h.head
  · have h2 := h.ok.n1
    obtain ⟨v, hv⟩ := Option.isSome_iff_exists.1 (h.there 0 (by omega)).1
    obtain ⟨c, t, f, hh⟩ := cells_of_cell hv
    exact key c t f hh
  · omega
  · rcases h.waits.2 with ⟨e1, _⟩ | ⟨g, cap, cur, e1, _, hh, _⟩
    · rw [e1] at hf; cases hf
    · rw [e1] at hf
      obtain rfl : g = k := by simpa [Value.ownBlock] using hf
      exact key _ _ _ hh

set_option maxRecDepth 100000 in
set_option maxHeartbeats 2000000 in
theorem load_ok (K : Nat → Prop) (w : World) (v : Value) (zs : List Nat) (m : Nat) (hv : Octs w v zs) (hl : zs.length = 128 * m) (h1 : 1 ≤ m) (h2 : m ≤ 65536) (hK : ∀ k, K k → k < w.heap.size) :
    Calls Try.prog 8 #[v] w fun e w' => ∃ L : Loc, e = .returned (.tuple #[.pointer (some ⟨L.b, 0, none⟩), .int .i64 0]) ∧ IsDisk K w' L (loadSt m (valW (xsTo zs m m))) ∧ Below w.heap.size w w' := by
  obtain ⟨a, cap, rfl⟩ := hv.shape
  rw [hl] at hv ⊢
  obtain ⟨bb, off, rfl, hbb, hoct⟩ := hv.addr (by omega)
  have hcap : zs.length ≤ cap := by
    obtain ⟨_, _, a', cap', e, h3, _⟩ := hv
    simp only [Value.slice.injEq] at e
    omega
  have HV : Hid (Octs w (.slice (some ⟨bb, off, none⟩) (128 * m) cap) zs) := hv
  have HOC : Hid (OctAt w bb off zs) := hoct
  have HO : Hid (Octets zs) := hv.small
  have HK : Hid (∀ k, K k → k < w.heap.size) := hK
  clear hv hoct hK
  refine (callsIn_wide (n := 6)).1 (callsIn_of_wp_marks (F := Fence.wide) (n := 6) Try.func8 rfl trivial (wpIn_wide.2 ?_) rfl)
  simp only [Try.ntmps8, List.size_toArray, List.length_cons, List.length_nil, Nat.reduceAdd, Nat.reduceSub, Array.replicate_succ, Array.replicate_zero, List.push_toArray, List.append_toArray, List.nil_append, List.cons_append]
  go_wp2_with fail
  refine (new_v (fun k => k < w.heap.size) w m h1 h2 (fun k hk => hk)).mono ?_
  rintro e w1 ⟨L, rfl, hD, hb, hft⟩
  have HD : Hid (IsDisk (fun k => k < w.heap.size) w1 L (freshSt m)) := hD
  have HB : Hid (Below w.heap.size w w1) := hb
  have hsz1 : w.heap.size ≤ w1.heap.size := hb.size
  clear hD hb
  go_wp2_with fail
  refine (sectors_v _ _ (some ⟨bb, off, none⟩) (128 * m) cap rfl).mono ?_
  rintro e w2 ⟨rfl, rfl⟩
  go_wp2_with fail
  refine (wpIn_wide (n := 6)).1 ?_
  obtain ⟨W0, hW0⟩ : ∃ W0, (w1.alloc (.cells #[.pointer (some ⟨L.b, 0, none⟩)] 24)).alloc (.cells #[.slice (some ⟨bb, off, none⟩) (128 * m) cap] 22) = W0 := ⟨_, rfl⟩
  have hsz : W0.heap.size = w1.heap.size + 2 := by rw [← hW0]; simp
  have hBs : Boxed W0 (w1.heap.size + 1) 22 (.slice (some ⟨bb, off, none⟩) (128 * m) cap) := by
    rw [← hW0]
    have := Boxed.new (w1.alloc (.cells #[.pointer (some ⟨L.b, 0, none⟩)] 24)) 22 (.slice (some ⟨bb, off, none⟩) (128 * m) cap)
    rwa [World.size_alloc] at this
  have hBd : Boxed W0 w1.heap.size 24 (.pointer (some ⟨L.b, 0, none⟩)) := by rw [← hW0]; exact (Boxed.new _ _ _).alloc _
  have hB0 : Below w.heap.size w W0 := by rw [← hW0]; exact (HB.out.alloc hsz1 _).alloc (by simp; omega) _
  have hD0 : IsDisk (fun k => k < w.heap.size ∨ k = w1.heap.size ∨ k = w1.heap.size + 1) W0 L (loadSt m []) := by
    rw [← hW0]
    refine IsDisk.turnK (K := fun k => k < w.heap.size) ((HD.out.alloc _).alloc _) ?_ ?_
    · rintro k hf (hk | rfl | rfl)
      · have := hft k hf; omega
      · have := HD.out.lt _ hf; omega
      · have := HD.out.lt _ hf; omega
    · rintro k (hk | rfl | rfl)
      · simp; omega
      · simp; omega
      · simp
  rw [hW0]
  clear hW0
  have hmb : L.mb < W0.heap.size := hD0.lt _ (.inr (.inr (.inl rfl)))
  refine wpIn_rangeFunc_ownH (F := Fence.wide) rfl (by decide) (gf := 27) (lb := #[.pointer (some ⟨w1.heap.size + 1, 0, none⟩)]) rfl trivial (enters_of Try.func27 (by kernel_rfl) rfl)
    (sectors_stops 5 (w1.heap.size + 1) bb off cap m zs (by decide) hl (by omega) hcap HO.out W0 hBs.cell hBs.lt (by omega) (fun j hj => (hB0.cell (p := ⟨bb, off + j, none⟩) hbb).trans (HOC.out j hj)))
    Kept.trans (kpS_b hBs.lt (by omega)) (Below.refl _ _) (fun _ => rfl)
    (fun pre W => IsDisk (fun k => k < w.heap.size ∨ k = w1.heap.size ∨ k = w1.heap.size + 1) W L (loadSt m (valW pre)) ∧ Boxed W w1.heap.size 24 (.pointer (some ⟨L.b, 0, none⟩)) ∧ Below w.heap.size w W ∧ W0.heap.size ≤ W.heap.size)
    (fun _ _ _ => False)
    (fun s A B row hs hg hr => ⟨hs.1.own hg hr hmb, boxed_own w1.heap.size 24 (fun (_ : Unit) => Value.pointer (some ⟨L.b, 0, none⟩)) () A B row hs.2.1 hg (fun r e => (hr r e).2), hs.2.2.1.grown hg hs.2.2.1.size (fun k e => by have := (hr k e).1; omega), Nat.le_trans hs.2.2.2 hg.size⟩)
    (fun _ _ _ _ _ hs _ _ => hs)
    ⟨hD0, hBd, hB0, Nat.le_refl _⟩
    (fun x a' W => ∃ Bx, W0.heap.size ≤ Bx ∧ W.heap[Bx]? = some (.cells x.1.2.cells.toArray 54 (0, 0)) ∧ a' = { tmps := #[.slice (some ⟨bb, off, none⟩) (128 * m) cap, undef, .pointer none, .int .i64 0, .pointer (some ⟨w1.heap.size, 0, none⟩), .int .i64 0, .int .i64 (x.1.1 : Nat), .pointer (some ⟨Bx, 0, none⟩), .slice (some ⟨bb, off, none⟩) (128 * m) cap, .int .i64 (128 * (m : Int)), .int .i64 0, .bool false, .tuple #[.pointer (some ⟨L.b, 0, none⟩), .int .i64 0], .slice (some ⟨bb, off, none⟩) (128 * m) cap, .int .i64 (128 * (m : Int)), .int .i64 (m : Nat), .tuple #[.pointer (some ⟨L.b, 0, none⟩), .int .i64 0], .pointer (some ⟨L.b, 0, none⟩), .int .i64 0, .int .i64 0, .bool false, undef, .slice (some ⟨bb, off, none⟩) (128 * m) cap, .func (.func 27) #[] #[.pointer (some ⟨w1.heap.size + 1, 0, none⟩)], .int .i64 (x.1.1 : Nat), .agg x.1.2.cells.toArray, undef, undef, undef, undef, undef, undef, undef, undef], defers := [] })
    (fun x a' _ A B row hs hg hr => by
      obtain ⟨Bx, g1, g2, g3⟩ := hs
      refine ⟨Bx, g1, (hg.block Bx (Array.getElem?_eq_some_iff.1 g2).1 (fun e => ?_)).trans g2, g3⟩
      obtain ⟨_, o, ho, hc⟩ := hr Bx e.symm
      rw [g2] at ho; cases ho; cases hc)
    ?assign ?body ?done ?stop
  case assign =>
    rintro l pre x W K' ⟨hD, hBd1, hB1, hle⟩ hK
    have hz54 := Try.zeroSec
    have hs54 := Try.storeSec
    have hl54 := Sec.cells_length
    gi_wp2
    refine hK _ _ ((KeepsOthers.alloc _ _).from _) ((Kept.refl _ W).alloc (fun k hk => ?_) _) ⟨hD.alloc _, hBd1.alloc _, hB1.alloc hB1.size _, by simp; omega⟩ ⟨W.heap.size, hle, heap_alloc_last W _, rfl⟩
    rcases hk with rfl | rfl <;> omega
  case body =>
    rintro l pre ⟨⟨i, s⟩, hi⟩ a' W hl' ⟨r, hr⟩ ⟨hD, hBd1, hB1, hle⟩ ⟨Bx, hx1, hx2, rfl⟩ hlt
    simp only at hi hx2
    have hDs := hD.store i s hi
    have hnx : L.sb ≠ Bx := fun e => by have := hD0.lt _ (.inr (.inl rfl)); omega
    have hS0 : (fun w' : World => w'.cell? ⟨w1.heap.size, 0, none⟩ = some (.pointer (some ⟨L.b, 0, none⟩)) ∧ w'.cell? ⟨L.b, 0, none⟩ = some (.slice (some ⟨L.sb, 0, none⟩) m m) ∧ w'.rangeAt Bx 0 s.cells ∧ w'.there L.sb (i * 128) 128) W.drew := by
      refine ⟨hBd1.cell, hD.head.cell.1, fun j v hv => ?_, fun j hj => ?_⟩
      · show W.cell? ⟨Bx, 0 + j, none⟩ = some v
        rw [cell_of_row _ _ _ _ _ _ hx2, Nat.zero_add]; simpa using hv
      · have := hD.there (i * 128 + j) (by show i * 128 + j < 128 * m; omega)
        rwa [Nat.zero_add] at this
    have hS1 : (fun w' : World => w'.cell? ⟨w1.heap.size, 0, none⟩ = some (.pointer (some ⟨L.b, 0, none⟩)) ∧ w'.cell? ⟨L.b, 0, none⟩ = some (.slice (some ⟨L.sb, 0, none⟩) m m) ∧ w'.rangeAt Bx 0 s.cells ∧ w'.there L.sb (i * 128) 128) (W.drew.setCells L.sb (i * 128) s.cells) := by
      refine ⟨?_, ?_, World.rangeAt_setCells_apart (w := W.drew) hS0.2.2.1 _ _ _ (.inl hnx.symm), World.there_setCells (w := W.drew) hS0.2.2.2 _ _ _⟩
      · rw [World.cell?_setCells_out _ _ _ _ _ (fun e => absurd e (fun e => hD.nK _ (.inr (.inl rfl)) (.inr (.inl e.symm))))]; exact hS0.1
      · rw [World.cell?_setCells_out _ _ _ _ _ (fun e => absurd e hD.ne1)]; exact hS0.2.1
    have HF : Hid (KeepsFrom W0.heap.size W (W.drew.setCells L.sb (i * 128) s.cells) ∧ KpS (w1.heap.size + 1) bb W (W.drew.setCells L.sb (i * 128) s.cells) ∧ IsDisk (fun k => k < w.heap.size ∨ k = w1.heap.size ∨ k = w1.heap.size + 1) (W.drew.setCells L.sb (i * 128) s.cells) L (loadSt m (valW (pre ++ [⟨(i, s), hi⟩]))) ∧ Boxed (W.drew.setCells L.sb (i * 128) s.cells) w1.heap.size 24 (.pointer (some ⟨L.b, 0, none⟩)) ∧ Below w.heap.size w (W.drew.setCells L.sb (i * 128) s.cells) ∧ W0.heap.size ≤ (W.drew.setCells L.sb (i * 128) s.cells).heap.size) := by
      have hgb : W.grownBy (W.drew.setCells L.sb (i * 128) s.cells) (some L.sb) := by
        obtain ⟨o1, o2, o3⟩ := os_setCells L.sb s.cells (i * 128) W.drew
        exact ⟨o1, o2, o3, by rw [size_setCells]; exact Nat.le_refl _, fun k _ hk => heap_setCells _ _ _ _ _ (fun e => hk (by rw [e]))⟩
      have hnK := hD.nK _ (.inr (.inl rfl))
      refine ⟨KeepsFrom.of_grownBy hgb (fun j e => by cases e; exact hD0.lt _ (.inr (.inl rfl))), ((Kept.refl _ W).drew).setCells (fun hk => hnK ?_) _ _, ?_, ?_, ?_, ?_⟩
      · rcases hk with e | e
        · exact .inr (.inr e)
        · left; omega
      · have := hD.drew.store i s hi
        rw [valW_snoc]
        show IsDisk _ _ L { loadSt m (valW pre) with safe := applyW (fun _ => Sec.zero) (valW pre ++ [(i, s)]) }
        rw [applyW_snoc, Nat.mul_comm i 128]
        exact this
      · exact (heap_setCells _ _ _ _ _ (fun e => hnK (.inr (.inl e.symm)))).trans hBd1
      · exact hB1.grown hgb hB1.size (fun k e => by cases e; exact Nat.le_of_not_lt (fun h => hnK (.inl h)))
      · rw [size_setCells]; exact hle
    have i1 : (0 : Int) ≤ (i : Int) := by omega
    have i2 : (i : Int) < (m : Int) := by omega
    clear hD hDs hBd1 hB1 hx2 hr
    gi_wp2
    refine wpIn_round_held (S := fun w' : World => w'.cell? ⟨w1.heap.size, 0, none⟩ = some (.pointer (some ⟨L.b, 0, none⟩)) ∧ w'.cell? ⟨L.b, 0, none⟩ = some (.slice (some ⟨L.sb, 0, none⟩) m m) ∧ w'.rangeAt Bx 0 s.cells ∧ w'.there L.sb (i * 128) 128) (by kernel_rfl) (by kernel_rfl) (fun ⟨_, _, h⟩ => h) hS0 (fun hHeld => ?_)
    refine wpAnyH_take (i := 0) (v := .pointer (some ⟨L.b, 0, none⟩)) rfl (by kernel_rfl) (by kernel_rfl) (by kernel_rfl) (fun _ _ _ h => h) (Or.inl ⟨by rfl, fun w' hSw => ?_⟩) hHeld ?_
    · dsimp only at hSw
      go_simp
    simp only [Act.put, List.getElem_toArray, List.getElem_cons_zero, List.setIfInBounds_toArray, List.set_cons_zero, List.set_cons_succ]
    refine wpAnyH_take (i := 1) (v := .pointer (some ⟨L.b, 0, none⟩)) rfl (by kernel_rfl) (by kernel_rfl) (by kernel_rfl) (fun _ _ _ h => h) (Or.inl ⟨by rfl, fun w' hSw => ?_⟩) hHeld ?_
    · dsimp only at hSw
      go_simp
    simp only [Act.put, List.getElem_toArray, List.getElem_cons_succ, List.getElem_cons_zero, List.setIfInBounds_toArray, List.set_cons_zero, List.set_cons_succ]
    refine wpAnyH_take (i := 2) (v := .pointer (some ⟨L.b, 0, none⟩)) rfl (by kernel_rfl) (by kernel_rfl) (by kernel_rfl) (fun _ _ _ h => h) (Or.inl ⟨by rfl, fun w' hSw => ?_⟩) hHeld ?_
    · dsimp only at hSw
      go_simp
    simp only [Act.put, List.getElem_toArray, List.getElem_cons_succ, List.getElem_cons_zero, List.setIfInBounds_toArray, List.set_cons_zero, List.set_cons_succ]
    refine wpAnyH_take (i := 3) (v := .slice (some ⟨L.sb, 0, none⟩) m m) rfl (by kernel_rfl) (by kernel_rfl) (by kernel_rfl) (fun _ _ _ h => h) (Or.inl ⟨by rfl, fun w' hSw => ?_⟩) hHeld ?_
    · dsimp only at hSw
      go_simp
    simp only [Act.put, List.getElem_toArray, List.getElem_cons_succ, List.getElem_cons_zero, List.setIfInBounds_toArray, List.set_cons_zero, List.set_cons_succ]
    refine wpAnyH_take (i := 4) (v := .int .i64 (i : Nat)) rfl (by kernel_rfl) (by kernel_rfl) (by kernel_rfl) (fun _ _ _ h => h) (Or.inl ⟨by rfl, fun w' hSw => ?_⟩) hHeld ?_
    · dsimp only at hSw
      go_simp
    simp only [Act.put, List.getElem_toArray, List.getElem_cons_succ, List.getElem_cons_zero, List.setIfInBounds_toArray, List.set_cons_zero, List.set_cons_succ]
    refine wpAnyH_take (i := 5) (v := .agg s.cells.toArray) rfl (by kernel_rfl) (by kernel_rfl) (by kernel_rfl) (fun _ _ _ h => h) (yieldsIf_load_mid (by rfl) 54 _ rfl Bx 0 (by rfl) s.cells _ (fun w' h => h.2.2.1) Try.underlying54 rfl (by rw [Sec.cells_length]; exact Try.sizeSec)) hHeld ?_
    simp only [Act.put, List.getElem_toArray, List.getElem_cons_succ, List.getElem_cons_zero, List.setIfInBounds_toArray, List.set_cons_zero, List.set_cons_succ]
    refine wpAnyH_take (i := 6) (v := .pointer (some ⟨L.sb, i * 128, none⟩)) rfl (by kernel_rfl) (by kernel_rfl) (by kernel_rfl) (fun _ _ _ h => h) (Or.inl ⟨by rfl, fun w' hSw => ?_⟩) hHeld ?_
    · dsimp only at hSw
      go_simp
    simp only [Act.put, List.getElem_toArray, List.getElem_cons_succ, List.getElem_cons_zero, List.setIfInBounds_toArray, List.set_cons_zero, List.set_cons_succ]
    refine wpAnyH_ready (rs := [7]) (by kernel_rfl) (by simp) ?_
    refine AllReadyH.cons rfl (fun K hK => ?_) AllReadyH.nil
    simp only [List.getElem_toArray, List.getElem_cons_succ, List.getElem_cons_zero]
    rw [if_pos (by rfl)]
    refine wp_store_mid 54 (.tmp 32) (.tmp 31) (by rfl) L.sb (i * 128) s.cells.toArray (by rfl) (by rfl) ?_ ?_ (all_oneCell_toArray (Sec.cells_one s)) ?_
    · rw [List.size_toArray, Sec.cells_length]; exact hHeld.2.2.2
    · rw [List.size_toArray, Sec.cells_length]; exact Try.sizeSec
    simp only [Act.put]
    refine hK.out _ _ hS1 (fun _ => ?_)
    refine wpAnyH_done (by kernel_rfl) ?_ _
    exact HF.out
  case done =>
    rintro D ys W hDl rfl ⟨hD, hBd1, hB1, hle⟩ hKd
    have hc := hBd1.cell
    have HD2 : Hid (IsDisk K (W.putObj D (.deferred none)) L (loadSt m (valW (xsTo zs m m))) ∧ Below w.heap.size w (W.putObj D (.deferred none))) := by
      have hlt := (Array.getElem?_eq_some_iff.1 hKd).1
      refine ⟨(hD.own (grownBy_putObj' W D _) (B0 := W0.heap.size) (fun r e => by cases e; exact ⟨hDl, _, hKd, rfl⟩) hmb).turnK (fun k hf hk => ?_) (fun k hk => ?_), hB1.grown (grownBy_putObj' W D _) hB1.size (fun k e => by cases e; omega)⟩
      · exact hD.nK k hf (.inl (HK.out k hk))
      · have := HK.out k hk
        have := hB1.size
        simp; omega
    clear hD hBd1 hB1
    go_wp2
    refine ⟨by simp, .inl ⟨_, _, rfl, run_takeDeferred hKd, ?_⟩⟩
    exact ⟨_, results_tmp2 rfl _ _ _, L, rfl, HD2.out.1, HD2.out.2⟩
  case stop =>
    rintro D c pre W _ _ h _
    exact h.elim
end Go.Proofs.Ytjjodmppneonjaa
