/- Contracts of 'octets', 'Read' and 'Image'. -/
import Derived.Test.YtjjodmppneonjaaWalkDisk2
namespace Go.Proofs.Ytjjodmppneonjaa
open Go.RowKit
set_option linter.unusedVariables false

/-- What a sector has by the latest writes. -/
def St.see (S : St) (k : Nat) : Sec := match lastOf S.waits k with
  | none => S.safe k
  | some i => match S.waits[i]? with
    | some p => p.2
    | none => S.safe k
def secsN (f : Nat → Sec) (a m : Nat) : List Nat := (List.range m).flatMap fun i => (f (a + i)).l
theorem secsN_succ (f : Nat → Sec) (a m : Nat) : secsN f a (m + 1) = secsN f a m ++ (f (a + m)).l := by simp [secsN, List.range_succ]
theorem secsN_length (f : Nat → Sec) (a m : Nat) : (secsN f a m).length = 128 * m := by
  induction m with
  | zero => rfl
  | succ m ih => rw [secsN_succ, List.length_append, ih, Sec.len]; omega
theorem secsN_small (f : Nat → Sec) (a m : Nat) : ∀ z ∈ secsN f a m, z < 256 := by
  intro z hz
  simp only [secsN, List.mem_flatMap] at hz
  obtain ⟨i, _, hi⟩ := hz
  exact (f (a + i)).oct z hi
theorem lastOf_some {ps : List Wr} {k i : Nat} (h : lastOf ps k = some i) : ∃ p, ps[i]? = some p ∧ p.1 = k ∧ i < ps.length := by
  have h1 := List.find?_some h
  have h2 := List.mem_of_find?_eq_some h
  simp at h1 h2
  obtain ⟨s, hs⟩ := h1
  exact ⟨(k, s), hs, rfl, h2⟩

/-- A whole variable into the block that was made last. -/
theorem wpList_store_last {P : Program} {ops : Array Oper} {rest : List Oper} {op : Oper} {a : Act} {w : World} {Q : Exit → Act → World → Prop} (hgd : op.guard = none) (ty : TypeId) (x y : Operand) (ho : op.op = .store ty x y)
    (w0 : World) (c : Array Value) (hw : w = w0.alloc (.cells c ty)) (cells : Array Value) (hx : a.eval x = .pointer (some ⟨w0.heap.size, 0, none⟩)) (hy : a.eval y = .agg cells)
    (hi : (P.info? ty).map (·.size) = some cells.size) (hs : c.size = cells.size) (h1 : cells.all (·.oneCell') = true)
    (h : wpList P ops Q rest (a.put op.dst undef) (w0.alloc (.cells cells ty))) : wpList P ops Q (op :: rest) a w := by
  subst hw
  refine wpList_plain hgd fun _ hK => ?_
  unfold Oper.wp execOp
  simp only [ho, hx, hy, Instr.storeAt, Instr.sureAddr, Sem.run_bind, Sem.run_pure, Result.andThen_ok, run_storeVar_new w0 ty c cells hi hs h1]
  exact hK _ _ h

theorem Try.zeroSec (w : World) : (zeroValue 54).run Try.prog w = .ok (.agg (Array.replicate 128 (.int .u8 0))) w := (zero_of_info (n := 128) (by kernel_rfl)).1 w
theorem Try.sizeSec : (Try.prog.info? 54).map (·.size) = some 128 := by kernel_rfl
theorem Try.infoU8d : (Try.prog.info? 5).map (fun i => (i.zero, i.size, i.bytes)) = some (some (.int .u8 0), 1, 1) := by kernel_rfl
theorem Try.storeSec (w : World) (s : Sec) : (storeCells ⟨w.heap.size, 0, none⟩ s.cells).run Try.prog (w.alloc (.cells (Array.replicate 128 (.int .u8 0)) 54)) = .ok () (w.alloc (.cells s.cells.toArray 54)) :=
  run_storeCells_new (P := Try.prog) w 54 (Array.replicate 128 (.int .u8 0)) s.cells.toArray (by rw [List.size_toArray, Sec.cells_length]; exact Try.sizeSec) (by simp [Sec.cells_length]) (all_oneCell_toArray (Sec.cells_one _))
theorem Try.storeSec2 (w : World) (s s' : Sec) : (storeCells ⟨w.heap.size, 0, none⟩ s'.cells).run Try.prog (w.alloc (.cells s.cells.toArray 54)) = .ok () (w.alloc (.cells s'.cells.toArray 54)) :=
  run_storeCells_new (P := Try.prog) w 54 s.cells.toArray s'.cells.toArray (by rw [List.size_toArray, Sec.cells_length]; exact Try.sizeSec) (by simp [Sec.cells_length]) (all_oneCell_toArray (Sec.cells_one _))
theorem wf_nat (k : Nat) (h : k ≤ 9223372036854775807) : (Lit.int .i64 (k : Nat)).wf = true := by
  simp [Lit.wf, IntKind.min, IntKind.max, IntKind.signed, IntKind.bits]; omega
theorem look_none {K : Nat → Prop} {w : World} {L : Loc} {S : St} (h : IsDisk K w L S) (k : Nat) (hk : k < S.n) (hl : lastOf S.waits k = none) :
    ∃ c, (Instr.lookup 57 (.map (some L.mb)) (.int .i64 (k : Nat)) true).run Try.prog w = .ok (.tuple #[.int .i64 c, .bool false]) w := by
  obtain ⟨D, hmap, hlat⟩ := h.map
  have hn := h.ok.n2
  obtain ⟨v, ps, hrun, hv⟩ := hmap.look_ok (t := 57) (Maps.int_keyed Try.underlying3) Try.underlying57 (z := .int .i64 0) (Try.zeroValue3 _) (plainElem_int Try.underlying3 (by decide)) (Maps.keyOf_int_mk Try.underlying3 (wf_nat k (by omega)))
  obtain ⟨c, rfl, _, _⟩ := plainElem_int_inv Try.underlying3 hv
  rw [(hlat k (by omega)).1 hl] at hrun
  exact ⟨c, hrun⟩
theorem look_some {K : Nat → Prop} {w : World} {L : Loc} {S : St} (h : IsDisk K w L S) (k i : Nat) (hk : k < S.n) (hl : lastOf S.waits k = some i) :
    (Instr.lookup 57 (.map (some L.mb)) (.int .i64 (k : Nat)) true).run Try.prog w = .ok (.tuple #[.int .i64 (i : Nat), .bool true]) w := by
  obtain ⟨D, hmap, hlat⟩ := h.map
  have hn := h.ok.n2
  obtain ⟨v, ps, hrun, hv⟩ := hmap.look_ok (t := 57) (Maps.int_keyed Try.underlying3) Try.underlying57 (z := .int .i64 0) (Try.zeroValue3 _) (plainElem_int Try.underlying3 (by decide)) (Maps.keyOf_int_mk Try.underlying3 (wf_nat k (by omega)))
  obtain ⟨c, rfl, hc, _⟩ := plainElem_int_inv Try.underlying3 hv
  rw [((hlat k (by omega)).2 i hl).1] at hrun
  rw [((hlat k (by omega)).2 i hl).2] at hc
  simp only [Prod.mk.injEq, DataW.lit.injEq, Lit.int.injEq, true_and] at hc
  rw [hrun, hc.1]
theorem see_none {S : St} {k : Nat} (h : lastOf S.waits k = none) : S.see k = S.safe k := by simp [St.see, h]
theorem see_some {S : St} {k i : Nat} {p : Wr} (h : lastOf S.waits k = some i) (hp : S.waits[i]? = some p) : S.see k = p.2 := by simp [St.see, h, hp]
theorem Sec.size (s : Sec) : s.cells.toArray.size = 128 := by simp [Sec.cells_length]

/-- The write's own cells, in the row of all that wait. -/
theorem waits_at {w : World} {wv : Value} {ps : List Wr} (h : w.ownsRow 0 64 129 wv ps.length (flatW ps)) {i : Nat} {p : Wr} (hi : ps[i]? = some p) : ∃ g cap, wv = .slice (some ⟨g, 0, none⟩) ps.length cap ∧ ps.length ≤ cap ∧ w.rangeAt g (129 * i) (wrCells p) := by
  have hlt := (List.getElem?_eq_some_iff.1 hi).1
  rcases h.2 with ⟨_, h0⟩ | ⟨g, cap, cur, rfl, _, hg, hc, hm, hs, ht⟩
  · omega
  · refine ⟨g, cap, rfl, hc, fun j v hv => ?_⟩
    have hj : j < 129 := by have := (List.getElem?_eq_some_iff.1 hv).1; rwa [wrCells_length] at this
    rw [cell_of_row _ _ _ _ _ _ hg, ← hv, ← flatW_at ps i p hi j hj, ← ht, List.getElem?_take_of_lt (by omega)]
    simp
theorem wr_data {w : World} {g o : Nat} {p : Wr} (h : w.rangeAt g o (wrCells p)) : w.rangeAt g (o + 1) p.2.cells := fun j v hv => by
  have := h (j + 1) v (by simpa [wrCells] using hv)
  rw [show o + 1 + j = o + (j + 1) by omega]; exact this
theorem wr_at {w : World} {g o : Nat} {p : Wr} (h : w.rangeAt g o (wrCells p)) : w.cell? ⟨g, o, none⟩ = some (.int .i64 (p.1 : Nat)) := h 0 _ rfl

/-- A sector that was just laid, as octets. -/
theorem octs_sec (w : World) (s : Sec) (t : TypeId) : Octs (w.alloc (.cells s.cells.toArray t)) (.slice (some ⟨w.heap.size, 0, none⟩) 128 128) s.l := by
  refine ⟨s.oct, by rw [s.len]; decide, _, 128, by rw [s.len], by rw [s.len]; exact Nat.le_refl _, by decide, .inr ⟨_, rfl, .inr ⟨_, 0, rfl, by simp, ?_⟩⟩⟩
  intro j hj
  rw [cell_of_row _ _ _ _ _ _ (heap_alloc_last w _), Nat.zero_add]
  simp [Sec.cells, u8s, List.getElem?_eq_getElem hj]

set_option maxHeartbeats 1000000 in
theorem octets_v {K : Nat → Prop} {w : World} {L : Loc} {S : St} (h : IsDisk K w L S) (a m : Nat) (ham : a + m ≤ S.n) :
    Calls Try.prog 22 #[.pointer (some ⟨L.b, 0, none⟩), .int .i64 (a : Nat), .int .i64 (m : Nat)] w fun e w' => ∃ v, e = .returned v ∧ Octs w' v (secsN S.see a m) ∧ Below w.heap.size w w' := by
  obtain ⟨i0, hi, hz0, hz1, hz2⟩ := info_parts Try.infoU8d
  have H : Hid (IsDisk K w L S) := h
  have hn := h.ok.n2
  have hz54 := Try.zeroSec
  have hs54 := Try.storeSec
  have hl54 := Sec.cells_length
  clear h
  have e1 : IntKind.i64.wrap ((m : Int) * 128) = ((m * 128 : Nat) : Int) := by rw [IntKind.wrap_i64]; omega
  go_enter Try.func22, Try.ntmps22
  go_wp2_with (at_make; refine wpList_make_rows _ rfl _ _ 22 rfl 5 i0 _ 1 Try.underlying22 hi hz0 hz1 .i64 .i64 0 (m * 128) (by omega) rfl ?hc ?c1 ?c2 ?_)
  case hc => simp [Act.eval]
  case c1 => rw [hz2]; omega
  case c2 => unfold maxLen; omega
  have H0 : (w.alloc (.cells (madeCells (Value.int .u8 0).cells (m * 128 * 1)) 5)).ownsRow w.heap.size 5 1 (.slice (some ⟨w.heap.size, 0, none⟩) 0 (m * 128)) (128 * 0) (u8s (secsN S.see a 0)) :=
    ⟨by simp [secsN, u8s], .inr ⟨w.heap.size, m * 128, _, rfl, Nat.le_refl _, heap_alloc_last w _, by omega, by unfold maxLen; omega, by rw [size_madeCells], by simp [secsN, u8s]⟩⟩
  have HH0 : Hid ((w.alloc (.cells (madeCells (Value.int .u8 0).cells (m * 128 * 1)) 5)).ownsRow w.heap.size 5 1 (.slice (some ⟨w.heap.size, 0, none⟩) 0 (m * 128)) (128 * 0) (u8s (secsN S.see a 0))) := H0
  clear H0
  go_wp2_with fail
  go_loopw [7, 16] (fun v i wr => ∃ k : Nat, k ≤ m ∧ i = .int .i64 k ∧ wr.ownsRow w.heap.size 5 1 v (128 * k) (u8s (secsN S.see a k)) ∧ Below w.heap.size w wr) (fun _ i _ => m - (intOf i).toNat)
  case atStart =>
    exact ⟨0, by omega, rfl, by have := HH0.out; rw [Nat.mul_one] at this; exact this, (Below.refl _ w).alloc (Nat.le_refl _) _⟩
  case round =>
    obtain ⟨k, hk, rfl, hown, hnx⟩ := hrel
    have HOW : Hid (wr.ownsRow w.heap.size 5 1 u7 (128 * k) (u8s (secsN S.see a k))) := hown
    have HNX : Hid (Below w.heap.size w wr) := hnx
    have hD := H.out.belowed hnx
    have HD : Hid (IsDisk K wr L S) := hD
    have hsz : w.heap.size ≤ wr.heap.size := hnx.size
    by_cases hlt : k < m
    · have hq : a + k < S.n := by omega
      obtain ⟨c0, c1, c2, _, _⟩ := hD.head.cell
      have hbl : L.b < wr.heap.size := hD.head.lt
      have HS : Hid (wr.rangeAt L.sb (128 * (a + k)) (S.safe (a + k)).cells) := hD.safe (a + k) hq
      have e2 : IntKind.i64.wrap ((a : Int) + k) = ((a + k : Nat) : Int) := by rw [IntKind.wrap_i64]; omega
      -- what is appended at the end, whichever way
      have fin : ∀ (s : Sec), Hid (S.see (a + k) = s) → ∀ v' w', w'.ownsRow w.heap.size 5 1 v' (128 * k + s.l.length) (u8s (secsN S.see a k ++ s.l)) → (wr.alloc (.cells s.cells.toArray 54)).grownBy w' u7.ownBlock →
          Hid (w'.ownsRow w.heap.size 5 1 v' (128 * (k + 1)) (u8s (secsN S.see a (k + 1))) ∧ Below w.heap.size w w') := by
        intro s hs v' w' h1 h2
        refine ⟨?_, ?_⟩
        · rw [s.len] at h1
          rw [secsN_succ, hs.out, show 128 * (k + 1) = 128 * k + 128 by omega]; exact h1
        · exact (HNX.out.alloc hsz _).grown h2 (by simp; omega) (fun j hj => (HOW.out.lt j hj).1)
      clear hown hnx
      rcases hla : lastOf S.waits (a + k) with _ | i
      · obtain ⟨c, hlook⟩ := look_none (hD.alloc (.cells (S.safe (a + k)).cells.toArray 54)) (a + k) hq hla
        have HSE : Hid (S.see (a + k) = S.safe (a + k)) := see_none hla
        rw [Int.natCast_add] at hlook
        clear hD hla
        go_wp2_with (first
          | (refine wpList_load_mid rfl 54 _ rfl _ _ rfl (S.safe (a + k)).cells _ (by rw [Nat.mul_comm]; exact HS.out) Try.underlying54 rfl (by rw [Sec.cells_length]; exact Try.sizeSec) ?_)
          | (at_builtin; refine wpList_append_octs _ rfl _ _ 22 rfl w.heap.size 5 i0 Try.underlying22 hi hz0 hz1 hz2 _ (128 * k) (secsN S.see a k) rfl (HOW.out.alloc _) _ (S.safe (a + k)).l rfl (octs_sec _ _ _) ?d1 ?d2 ?_))
        case d1 => rw [Sec.len]; omega
        case d2 => simp; omega
        intro v' w' hown' hg'
        have HF := fin _ HSE v' w' hown' hg'
        clear hown' hg'
        go_wp2
        go_roundw
        case rel => exact ⟨k + 1, by omega, by simp, HF.out.1, HF.out.2⟩
        case measure => simp [intOf]; omega
      · obtain ⟨p, hp, hpk, hil⟩ := lastOf_some hla
        obtain ⟨g, cap, hwv, hcap, hrg⟩ := waits_at hD.waits hp
        have HRG : Hid (wr.rangeAt g (129 * i + 1) p.2.cells) := wr_data hrg
        have hlook := look_some (hD.alloc (.cells (S.safe (a + k)).cells.toArray 54)) (a + k) i hq hla
        have HSE : Hid (S.see (a + k) = p.2) := see_some hla hp
        have hs542 := Try.storeSec2
        have hmany := hD.ok.many
        rw [Int.natCast_add] at hlook
        rw [hwv] at c1
        generalize S.waits.length = q at c1 hcap hil hmany
        clear hD hla hwv hrg
        go_wp2_with (first
          | (refine wpList_load_mid rfl 54 _ rfl _ _ rfl (S.safe (a + k)).cells _ (by rw [Nat.mul_comm]; exact HS.out) Try.underlying54 rfl (by rw [Sec.cells_length]; exact Try.sizeSec) ?_)
          | (refine wpList_load_mid rfl 54 _ rfl _ _ rfl p.2.cells _ (World.rangeAt_alloc (by rw [Nat.mul_comm]; exact HRG.out) _) Try.underlying54 rfl (by rw [Sec.cells_length]; exact Try.sizeSec) ?_)
          | (at_builtin; refine wpList_append_octs _ rfl _ _ 22 rfl w.heap.size 5 i0 Try.underlying22 hi hz0 hz1 hz2 _ (128 * k) (secsN S.see a k) rfl (HOW.out.alloc _) _ p.2.l rfl (octs_sec _ _ _) ?d1 ?d2 ?_))
        case d1 => rw [Sec.len]; omega
        case d2 => simp; omega
        intro v' w' hown' hg'
        have HF := fin _ HSE v' w' hown' hg'
        clear hown' hg'
        go_wp2
        go_roundw
        case rel => exact ⟨k + 1, by omega, by simp, HF.out.1, HF.out.2⟩
        case measure => simp [intOf]; omega
    · obtain rfl : k = m := by omega
      clear hD hown hnx
      go_wp2
      go_ret
      exact ⟨_, rfl, Octs.owned HOW.out (secsN_small _ _ _), HNX.out⟩

theorem hasN_ok {n a m : Nat} (h : a + m ≤ n) : hasN n (a : Nat) (m : Nat) = true := decide_eq_true (by omega)
set_option maxHeartbeats 400000 in
theorem read_ok {K : Nat → Prop} {w : World} {L : Loc} {S : St} (h : IsDisk K w L S) (a m : Nat) (ham : a + m ≤ S.n) (hl : S.left ≠ 0) :
    Calls Try.prog 12 #[.pointer (some ⟨L.b, 0, none⟩), .int .i64 (a : Nat), .int .i64 (m : Nat)] w fun e w' => ∃ v, e = .returned (.tuple #[v, .int .i64 0]) ∧ Octs w' v (secsN S.see a m) ∧ IsDisk K w' L S.spent ∧ Kept K w w' := by
  have H : Hid (IsDisk K w L S) := h
  clear h
  go_enter Try.func12, Try.ntmps12
  go_wp2_with fail
  refine (has_v H.out _ _).mono ?_
  rintro e w1 ⟨rfl, rfl⟩
  rw [hasN_ok ham]
  go_wp2_with fail
  refine (spend_v H.out).mono ?_
  rintro e w2 ⟨rfl, h2, k2⟩
  rw [decide_eq_true hl]
  have H2 : Hid (IsDisk K w2 L S.spent) := h2
  have K2 : Hid (Kept K w1 w2) := k2
  clear h2 k2
  go_wp2_with fail
  refine (octets_v H2.out a m ham).mono ?_
  rintro e w3 ⟨v, rfl, ho, hb⟩
  have HO : Hid (Octs w3 v (secsN S.see a m)) := ho
  have HB : Hid (Below w2.heap.size w2 w3) := hb
  clear ho hb
  go_wp2
  go_ret2
  exact ⟨v, rfl, HO.out, H2.out.belowed HB.out, K2.out.trans (Kept.ofBelow HB.out H2.out.kl)⟩
set_option maxHeartbeats 400000 in
theorem read_off {K : Nat → Prop} {w : World} {L : Loc} {S : St} (h : IsDisk K w L S) (a m : Nat) (ham : a + m ≤ S.n) (hl : S.left = 0) :
    Calls Try.prog 12 #[.pointer (some ⟨L.b, 0, none⟩), .int .i64 (a : Nat), .int .i64 (m : Nat)] w fun e w' => e = .returned (.tuple #[.slice none 0 0, .int .i64 10]) ∧ IsDisk K w' L S.spent ∧ Kept K w w' := by
  have H : Hid (IsDisk K w L S) := h
  clear h
  go_enter Try.func12, Try.ntmps12
  go_wp2_with fail
  refine (has_v H.out _ _).mono ?_
  rintro e w1 ⟨rfl, rfl⟩
  rw [hasN_ok ham]
  go_wp2_with fail
  refine (spend_v H.out).mono ?_
  rintro e w2 ⟨rfl, h2, k2⟩
  rw [decide_eq_false (fun h => h hl)]
  have H2 : Hid (IsDisk K w2 L S.spent) := h2
  have K2 : Hid (Kept K w1 w2) := k2
  clear h2 k2
  go_wp2
  go_ret2
  exact ⟨rfl, H2.out, K2.out⟩
set_option maxHeartbeats 400000 in
theorem image_v {K : Nat → Prop} {w : World} {L : Loc} {S : St} (h : IsDisk K w L S) :
    Calls Try.prog 10 #[.pointer (some ⟨L.b, 0, none⟩)] w fun e w' => ∃ v, e = .returned v ∧ Octs w' v (secsN S.see 0 S.n) ∧ Below w.heap.size w w' := by
  have H : Hid (IsDisk K w L S) := h
  have c0 := h.head.cell.1
  clear h
  go_enter Try.func10, Try.ntmps10
  go_wp2_with fail
  refine (octets_v H.out 0 S.n (by omega)).mono ?_
  rintro e w3 ⟨v, rfl, ho, hb⟩
  have HO : Hid (Octs w3 v (secsN S.see 0 S.n)) := ho
  have HB : Hid (Below w.heap.size w w3) := hb
  clear ho hb
  go_wp2
  go_ret
  exact ⟨v, rfl, HO.out, HB.out⟩
end Go.Proofs.Ytjjodmppneonjaa
