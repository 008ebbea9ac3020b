/- The contract of 'Flush'. -/
import Derived.Test.YtjjodmppneonjaaWalkOctets
import Derived.Deep.RegionHeld3
namespace Go.Proofs.Ytjjodmppneonjaa
open Go.RowKit
set_option linter.unusedVariables false

def upd (f : Nat → Sec) (k : Nat) (s : Sec) : Nat → Sec := fun j => if j = k then s else f j
def applyW (f : Nat → Sec) (ps : List Wr) : Nat → Sec := ps.foldl (fun f p => upd f p.1 p.2) f
theorem applyW_snoc (f : Nat → Sec) (ps : List Wr) (p : Wr) : applyW f (ps ++ [p]) = upd (applyW f ps) p.1 p.2 := by simp [applyW]

/-- A sector's own cells are written. -/
theorem IsDisk.store {K : Nat → Prop} {w : World} {L : Loc} {S : St} (h : IsDisk K w L S) (k : Nat) (s : Sec) (hk : k < S.n) : IsDisk K (w.setCells L.sb (128 * k) s.cells) L { S with safe := upd S.safe k s } where
  head := (heap_setCells _ _ _ _ _ h.ne1).trans h.head
  safe i hi := by
    by_cases e : i = k
    · subst e
      show (w.setCells L.sb (128 * i) s.cells).rangeAt L.sb (128 * i) (upd S.safe i s i).cells
      rw [show upd S.safe i s i = s from if_pos rfl]
      exact World.rangeAt_setCells_same _ _ _ _ (fun j hj => by
        rw [Sec.cells_length] at hj
        have := h.there (128 * i + j) (by omega)
        rwa [Nat.zero_add] at this)
    · show (w.setCells L.sb (128 * k) s.cells).rangeAt L.sb (128 * i) (upd S.safe k s i).cells
      rw [show upd S.safe k s i = S.safe i from if_neg e]
      exact World.rangeAt_setCells_apart (h.safe i hi) _ _ _ (by rw [Sec.cells_length, Sec.cells_length]; omega)
  there := World.there_setCells h.there _ _ _
  waits := ownsRow_same h.waits fun g hg => heap_setCells _ _ _ _ _ (h.ne4 g hg).2.1
  map := by
    obtain ⟨D, h1, h2⟩ := h.map
    exact ⟨D, ownsMap_same h1 (heap_setCells _ _ _ _ _ h.ne3.symm), h2⟩
  nK := h.nK
  lt k hk := by rw [size_setCells]; exact h.lt k hk
  ne1 := h.ne1
  ne2 := h.ne2
  ne3 := h.ne3
  ne4 := h.ne4
  kl k hk := by rw [size_setCells]; exact h.kl k hk
  ok := ⟨h.ok.n1, h.ok.n2, h.ok.at', h.ok.many, h.ok.wr, h.ok.l1, h.ok.l2⟩

theorem Try.sizeWr : (Try.prog.info? 64).map (·.size) = some 129 := by kernel_rfl
theorem Try.zeroWr (w : World) : (zeroValue 64).run Try.prog w = .ok (.agg (#[.int .i64 0] ++ Array.replicate 128 (.int .u8 0))) w := (zero_of_info (n := 129) (by kernel_rfl)).1 w
theorem Try.storeWr (w : World) (p : Wr) (c : Array Value) (hc : c.size = 129) : (storeCells ⟨w.heap.size, 0, none⟩ (wrCells p)).run Try.prog (w.alloc (.cells c 64)) = .ok () (w.alloc (.cells (wrCells p).toArray 64)) :=
  run_storeCells_new (P := Try.prog) w 64 c (wrCells p).toArray (by rw [List.size_toArray, wrCells_length]; exact Try.sizeWr) (by simp [wrCells_length, hc]) (all_oneCell_toArray (wrCells_one _))
theorem Try.storeWr0 (w : World) (p : Wr) : (storeCells ⟨w.heap.size, 0, none⟩ (wrCells p)).run Try.prog (w.alloc (.cells (#[.int .i64 0] ++ Array.replicate 128 (.int .u8 0)) 64)) = .ok () (w.alloc (.cells (wrCells p).toArray 64)) :=
  Try.storeWr w p _ (by simp)
/-- A write that was just laid into a variable. -/
theorem wr_new (w : World) (p : Wr) (t : TypeId) : (w.alloc (.cells (wrCells p).toArray t)).rangeAt w.heap.size 0 (wrCells p) := fun j v hv => by
  rw [cell_of_row _ _ _ _ _ _ (heap_alloc_last w _), Nat.zero_add]
  simpa using hv

set_option maxHeartbeats 1000000 in
theorem flush_off {K : Nat → Prop} {w : World} {L : Loc} {S : St} (h : IsDisk K w L S) (hl : S.left = 0) :
    Calls Try.prog 16 #[.pointer (some ⟨L.b, 0, none⟩)] w fun e w' => e = .returned (.int .i64 10) ∧ IsDisk K w' L S.spent ∧ Kept K w w' := by
  have H : Hid (IsDisk K w L S) := h
  clear h
  go_enter Try.func16, Try.ntmps16
  go_wp2_with fail
  refine (spend_v H.out).mono ?_
  rintro e w2 ⟨rfl, h2, k2⟩
  rw [decide_eq_false (fun h => h hl)]
  have H2 : Hid (IsDisk K w2 L S.spent) := h2
  have K2 : Hid (Kept K w w2) := k2
  clear h2 k2
  go_wp2
  go_ret
  exact ⟨rfl, H2.out, K2.out⟩

def St.flushed (S : St) : St := { S with safe := applyW S.safe S.waits, waits := [] }
set_option maxHeartbeats 1000000 in
theorem flush_ok {K : Nat → Prop} {w : World} {L : Loc} {S : St} (h : IsDisk K w L S) (hl : S.left ≠ 0) :
    Calls Try.prog 16 #[.pointer (some ⟨L.b, 0, none⟩)] w fun e w' => e = .returned (.int .i64 0) ∧ IsDisk K w' { L with wv := .slice none 0 0 } S.spent.flushed ∧ Kept K w w' := by
  have H : Hid (IsDisk K w L S) := h
  clear h
  have hz64 := Try.zeroWr
  have hs64 := Try.storeWr0
  have hl64 := wrCells_length
  go_enter Try.func16, Try.ntmps16
  go_wp2_with fail
  refine (spend_v H.out).mono ?_
  rintro e w2 ⟨rfl, h2, k2⟩
  rw [decide_eq_true hl]
  obtain ⟨a, cap, hwv⟩ := wv_shape h2.waits
  have c1 := h2.head.cell.2.1
  rw [hwv] at c1
  obtain ⟨T, hT⟩ : ∃ T, S.spent = T := ⟨_, rfl⟩
  rw [hT] at h2 hwv c1
  have HT : Hid (S.spent = T) := hT
  have H2 : Hid (IsDisk K w2 L T) := h2
  have K2 : Hid (Kept K w w2) := k2
  have HW : Hid (L.wv = .slice a T.waits.length cap) := hwv
  have hmany := h2.ok.many
  obtain ⟨q, hq⟩ : ∃ q, q = T.waits.length := ⟨_, rfl⟩
  rw [← hq] at c1 hmany
  have HQ : Hid (q = T.waits.length) := hq
  clear h2 k2 hwv hT hq
  go_wp2_with fail
  go_loopw [13] (fun i wr => ∃ k : Nat, k ≤ q ∧ i = .int .i64 k ∧ IsDisk K wr L { T with safe := applyW T.safe (T.waits.take k) } ∧ Kept K w wr) (fun i _ => q - (intOf i).toNat)
  case atStart =>
    exact ⟨0, by omega, rfl, by simpa [applyW] using H2.out, K2.out⟩
  case round =>
    obtain ⟨k, hk, rfl, hD, hKp⟩ := hrel
    have HD : Hid (IsDisk K wr L { T with safe := applyW T.safe (T.waits.take k) }) := hD
    have HKP : Hid (Kept K w wr) := hKp
    by_cases hlt : k < q
    · have hkq : k < T.waits.length := by rw [← HQ.out]; exact hlt
      obtain ⟨p, hp⟩ : ∃ p, T.waits[k]? = some p := ⟨_, List.getElem?_eq_getElem hkq⟩
      obtain ⟨g, cap', hwv', hcap, hrg⟩ := waits_at hD.waits hp
      obtain ⟨rfl, rfl⟩ : a = some ⟨g, 0, none⟩ ∧ cap = cap' := by
        have := HW.out.symm.trans hwv'
        simp only [Value.slice.injEq] at this
        exact ⟨this.1, this.2.2⟩
      have HRG : Hid (wr.rangeAt g (129 * k) (wrCells p)) := hrg
      have hpn : p.1 < T.n := hD.ok.at' p (List.mem_of_getElem? hp)
      have hn := hD.ok.n2
      have c0 : wr.cell? ⟨L.b, 0, none⟩ = some (.slice (some ⟨L.sb, 0, none⟩) T.n T.n) := hD.head.cell.1
      have hbl := hD.head.lt
      -- what the drawn region reads
      have hnew := wr_new wr p 64
      obtain ⟨x, s⟩ := p
      have hS0 : (fun w' : World => w'.cell? ⟨L.b, 0, none⟩ = some (.slice (some ⟨L.sb, 0, none⟩) T.n T.n) ∧ w'.cell? ⟨wr.heap.size, 0, none⟩ = some (.int .i64 (x : Nat)) ∧ w'.rangeAt wr.heap.size 1 s.cells ∧ w'.there L.sb (x * 128) 128) (wr.alloc (.cells (wrCells (x, s)).toArray 64)) := by
        refine ⟨(hD.alloc _).head.cell.1, wr_at hnew, by simpa using wr_data hnew, fun j hj => ?_⟩
        have := (hD.alloc (.cells (wrCells (x, s)).toArray 64)).there (x * 128 + j) (by simp only at hpn ⊢; omega)
        rwa [Nat.zero_add] at this
      have hD1 := ((hD.alloc (.cells (wrCells (x, s)).toArray 64)).drew.store x s hpn)
      have hS1 : (fun w' : World => w'.cell? ⟨L.b, 0, none⟩ = some (.slice (some ⟨L.sb, 0, none⟩) T.n T.n) ∧ w'.cell? ⟨wr.heap.size, 0, none⟩ = some (.int .i64 (x : Nat)) ∧ w'.rangeAt wr.heap.size 1 s.cells ∧ w'.there L.sb (x * 128) 128) ((wr.alloc (.cells (wrCells (x, s)).toArray 64)).drew.setCells L.sb (x * 128) s.cells) := by
        have hsb : L.sb ≠ wr.heap.size := Nat.ne_of_lt (hD.lt _ (.inr (.inl rfl)))
        refine ⟨?_, ?_, World.rangeAt_setCells_apart (w := (wr.alloc (.cells (wrCells (x, s)).toArray 64)).drew) hS0.2.2.1 _ _ _ (.inl hsb.symm), World.there_setCells (w := (wr.alloc (.cells (wrCells (x, s)).toArray 64)).drew) hS0.2.2.2 _ _ _⟩
        · rw [World.cell?_setCells_out _ _ _ _ _ (fun e => absurd e hD.ne1)]; exact hS0.1
        · rw [World.cell?_setCells_out _ _ _ _ _ (fun e => absurd e.symm hsb)]; exact hS0.2.1
      have HS0 : Hid _ := hS0
      have HS1 : Hid _ := hS1
      have HF : Hid (IsDisk K ((wr.alloc (.cells (wrCells (x, s)).toArray 64)).drew.setCells L.sb (x * 128) s.cells) L { T with safe := applyW T.safe (T.waits.take (k + 1)) } ∧ Kept K w ((wr.alloc (.cells (wrCells (x, s)).toArray 64)).drew.setCells L.sb (x * 128) s.cells)) := by
        refine ⟨?_, (hKp.alloc hD.kl _).drew.setCells (hD.nK _ (.inr (.inl rfl))) _ _⟩
        rw [List.take_add_one, hp, Option.toList_some, applyW_snoc, Nat.mul_comm x 128]
        exact hD1
      have i1 : (0 : Int) ≤ (x : Int) := by omega
      have i2 : (x : Int) < (T.n : Int) := by simp only at hpn; omega
      have u54 := Try.underlying54
      have z54 : (Try.prog.info? 54).map (·.size) = some s.cells.length := by rw [Sec.cells_length]; exact Try.sizeSec
      have l54 : s.cells.length = 128 := Sec.cells_length s
      have o54 := s.cells_one
      clear hS0 hS1 hD1 hD hKp hwv' hrg hp hnew
      go_wp2_with (refine wpList_load_mid rfl 64 _ rfl _ _ rfl (wrCells (x, s)) _ (by rw [Nat.mul_comm]; exact HRG.out) Try.underlying64 rfl (by rw [wrCells_length]; exact Try.sizeWr) ?_)
      go_region_held3 (fun w' => w'.cell? ⟨L.b, 0, none⟩ = some (.slice (some ⟨L.sb, 0, none⟩) T.n T.n) ∧ w'.cell? ⟨wr.heap.size, 0, none⟩ = some (.int .i64 (x : Nat)) ∧ w'.rangeAt wr.heap.size 1 s.cells ∧ w'.there L.sb (x * 128) 128) (first | exact HS0.out | exact HS1.out) (fail)
      go_wp2
      go_roundw
      case rel => exact ⟨k + 1, by omega, by simp, HF.out.1, HF.out.2⟩
      case measure => simp [intOf]; omega
    · obtain rfl : k = q := by omega
      clear hD hKp
      go_wp2_with fail
      refine (forget_v HD.out).mono ?_
      rintro e w4 ⟨⟨v, rfl⟩, h4, k4⟩
      have H4 : Hid (IsDisk K w4 { L with wv := .slice none 0 0 } S.spent.flushed) := by
        rw [HT.out]
        rw [HQ.out, List.take_length] at h4
        exact h4
      have K4 : Hid (Kept K w w4) := HKP.out.trans k4
      clear h4 k4
      go_wp2
      go_ret
      exact ⟨rfl, H4.out, K4.out⟩
end Go.Proofs.Ytjjodmppneonjaa
