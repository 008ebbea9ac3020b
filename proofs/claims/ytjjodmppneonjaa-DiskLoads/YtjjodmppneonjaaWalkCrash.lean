/- The contract of 'Crash'. -/
import Derived.Test.YtjjodmppneonjaaWalkMarks
namespace Go.Proofs.Ytjjodmppneonjaa
open Go.RowKit
set_option linter.unusedVariables false

def tear (old new : Sec) (c : Nat) : Sec := ⟨new.l.take c ++ old.l.drop c, by
  have h1 := old.len
  have h2 := new.len
  simp; omega, fun x hx => by
  rcases List.mem_append.1 hx with h | h
  · exact new.oct x (List.mem_of_mem_take h)
  · exact old.oct x (List.mem_of_mem_drop h)⟩
def crashStep (zs : List Int) (torn cut : Int) (f : Nat → Sec) (i : Nat) (p : Wr) : Nat → Sec :=
  if (i : Int) ∈ zs then upd f p.1 p.2 else if (i : Int) = torn ∧ 0 < cut ∧ cut < 128 then upd f p.1 (tear (f p.1) p.2 cut.toNat) else f
def crashTo (zs : List Int) (torn cut : Int) (f : Nat → Sec) (ps : List Wr) : Nat → (Nat → Sec)
  | 0 => f
  | k + 1 => match ps[k]? with
    | some p => crashStep zs torn cut (crashTo zs torn cut f ps k) k p
    | none => crashTo zs torn cut f ps k
def keptTo (zs : List Int) : Nat → Nat
  | 0 => 0
  | k + 1 => keptTo zs k + (if (k : Int) ∈ zs then 1 else 0)
theorem keptTo_le (zs : List Int) (k : Nat) : keptTo zs k ≤ k := by
  induction k with
  | zero => exact Nat.le_refl _
  | succ k ih => simp only [keptTo]; split <;> omega
def St.crashed (S : St) (zs : List Int) (torn cut : Int) : St := { S with safe := crashTo zs torn cut S.safe S.waits S.waits.length, waits := [], left := -1 }

/-- 'copy' into the midst of a block, as one step of a region that draws its order. -/
theorem step_copy_mid {P : Program} {ops : Array Oper} {o : Oper} {a : Act} {w : World} {K : Act → World → Prop} {Q : Exit → Act → World → Prop} {E : Prop} (hgd : o.guard = none) (d s : Operand) (dT sT : TypeId)
    (ho : o.op = .call { callee := .builtin .copy, args := #[d, s], argTypes := #[dT, sT] }) (elem : TypeId) (hu : P.underlying dT = some (.slice elem)) (hsz : (P.info? elem).map (·.size) = some 1)
    (g off dLen dCap : Nat) (ad : Addr) (sLen sCap : Nat) (hd : a.eval d = .slice (some ⟨g, off, none⟩) dLen dCap) (hs : a.eval s = .slice (some ad) sLen sCap)
    (cs : List Value) (hn : cs.length = Nat.min sLen dLen) (hsrc : ∀ j v, cs[j]? = some v → w.cell? (ad.add j) = some v) (ht : w.there g off cs.length) (h1 : ∀ v ∈ cs, v.oneCell' = true)
    (h : K (a.put o.dst (goInt cs.length)) (w.setCells g off cs)) : if Region.wanted o (yielded ops a.tmps) = true then Oper.wp P o a w K Q else E := by
  have hw : Region.wanted o (yielded ops a.tmps) = true := by simp [Region.wanted, hgd]
  rw [if_pos hw]
  have hrun := run_copy_cells (P := P) w dT sT o.type elem g off dLen dCap ad sLen sCap cs hu hsz hn hsrc (fun j hj => (ht j hj).1) (fun j hj => (ht j hj).2) h1
  unfold Oper.wp
  simp [execOp, ho, resolve, invoke, builtin, hd, hs, hrun, Result.andThen]
  exact h

theorem Try.sizeU8 : (Try.prog.info? 5).map (·.size) = some 1 := by kernel_rfl
/-- The first octets of a sector are written. -/
theorem setCells_tear {w : World} {b o : Nat} (old new : Sec) (c : Nat) (hc : c ≤ 128) (h : w.rangeAt b o old.cells) (ht : w.there b o 128) : (w.setCells b o (new.cells.take c)).rangeAt b o (tear old new c).cells := by
  have hlen : (new.cells.take c).length = c := by rw [List.length_take, Sec.cells_length]; omega
  intro j v hv
  have e : (tear old new c).cells = new.cells.take c ++ old.cells.drop c := by simp [tear, Sec.cells, u8s, List.map_take, List.map_drop]
  rw [e] at hv
  by_cases hj : j < c
  · rw [List.getElem?_append_left (by omega)] at hv
    exact World.rangeAt_setCells_same w b o _ (fun i hi => ht i (by omega)) j v hv
  · rw [List.getElem?_append_right (by omega), hlen, List.getElem?_drop] at hv
    rw [World.cell?_setCells_out _ _ _ _ _ (fun _ _ => by right; simp only [hlen]; omega)]
    exact h j v (by rw [← hv]; congr 1; omega)
theorem IsDisk.tears {K : Nat → Prop} {w : World} {L : Loc} {S : St} (h : IsDisk K w L S) (k : Nat) (s : Sec) (c : Nat) (hc : c ≤ 128) (hk : k < S.n) : IsDisk K (w.setCells L.sb (128 * k) (s.cells.take c)) L { S with safe := upd S.safe k (tear (S.safe k) s c) } where
  head := (heap_setCells _ _ _ _ _ h.ne1).trans h.head
  safe i hi := by
    have hlen : (s.cells.take c).length = c := by rw [List.length_take, Sec.cells_length]; omega
    by_cases e : i = k
    · subst e
      show (w.setCells L.sb (128 * i) (s.cells.take c)).rangeAt L.sb (128 * i) (upd S.safe i (tear (S.safe i) s c) i).cells
      rw [show upd S.safe i (tear (S.safe i) s c) i = tear (S.safe i) s c from if_pos rfl]
      exact setCells_tear _ _ _ hc (h.safe i hi) (fun j hj => by
        have := h.there (128 * i + j) (by omega)
        rwa [Nat.zero_add] at this)
    · show (w.setCells L.sb (128 * k) (s.cells.take c)).rangeAt L.sb (128 * i) (upd S.safe k (tear (S.safe k) s c) i).cells
      rw [show upd S.safe k (tear (S.safe k) s c) i = S.safe i from if_neg e]
      exact World.rangeAt_setCells_apart (h.safe i hi) _ _ _ (by rw [Sec.cells_length, hlen]; omega)
  there := World.there_setCells h.there _ _ _
  waits := ownsRow_same h.waits fun g hg => heap_setCells _ _ _ _ _ (h.ne4 g hg).2.1
  map := by
    obtain ⟨D, h1, h2⟩ := h.map
    exact ⟨D, ownsMap_same h1 (heap_setCells _ _ _ _ _ h.ne3.symm), h2⟩
  nK := h.nK
  lt k hk := by rw [size_setCells]; exact h.lt k hk
  ne1 := h.ne1
  ne2 := h.ne2
  ne3 := h.ne3
  ne4 := h.ne4
  kl k hk := by rw [size_setCells]; exact h.kl k hk
  ok := ⟨h.ok.n1, h.ok.n2, h.ok.at', h.ok.many, h.ok.wr, h.ok.l1, h.ok.l2⟩

/-- What a drawn region reads while a write is laid into its sector: before and behind the store. -/
theorem box_reads {K : Nat → Prop} {wr : World} {L : Loc} {S : St} (hD : IsDisk K wr L S) (x : Nat) (s : Sec) (hx : x < S.n) : (wr.alloc (.cells (wrCells (x, s)).toArray 64)).cell? ⟨L.b, 0, none⟩ = some (.slice (some ⟨L.sb, 0, none⟩) S.n S.n) ∧ (wr.alloc (.cells (wrCells (x, s)).toArray 64)).cell? ⟨wr.heap.size, 0, none⟩ = some (.int .i64 (x : Nat)) ∧ (wr.alloc (.cells (wrCells (x, s)).toArray 64)).rangeAt wr.heap.size 1 s.cells ∧ (wr.alloc (.cells (wrCells (x, s)).toArray 64)).there L.sb (x * 128) 128 := by
  have hnew := wr_new wr (x, s) 64
  refine ⟨(hD.alloc _).head.cell.1, wr_at hnew, by simpa using wr_data hnew, fun j hj => ?_⟩
  have := (hD.alloc (.cells (wrCells (x, s)).toArray 64)).there (x * 128 + j) (by omega)
  rwa [Nat.zero_add] at this
theorem box_reads2 {K : Nat → Prop} {wr : World} {L : Loc} {S : St} (hD : IsDisk K wr L S) (x : Nat) (s : Sec) (hx : x < S.n) (cs : List Value) : ((wr.alloc (.cells (wrCells (x, s)).toArray 64)).drew.setCells L.sb (x * 128) cs).cell? ⟨L.b, 0, none⟩ = some (.slice (some ⟨L.sb, 0, none⟩) S.n S.n) ∧ ((wr.alloc (.cells (wrCells (x, s)).toArray 64)).drew.setCells L.sb (x * 128) cs).cell? ⟨wr.heap.size, 0, none⟩ = some (.int .i64 (x : Nat)) ∧ ((wr.alloc (.cells (wrCells (x, s)).toArray 64)).drew.setCells L.sb (x * 128) cs).rangeAt wr.heap.size 1 s.cells ∧ ((wr.alloc (.cells (wrCells (x, s)).toArray 64)).drew.setCells L.sb (x * 128) cs).there L.sb (x * 128) 128 := by
  have hS0 := box_reads hD x s hx
  have hsb : L.sb ≠ wr.heap.size := Nat.ne_of_lt (hD.lt _ (.inr (.inl rfl)))
  refine ⟨?_, ?_, World.rangeAt_setCells_apart (w := (wr.alloc (.cells (wrCells (x, s)).toArray 64)).drew) hS0.2.2.1 _ _ _ (.inl hsb.symm), World.there_setCells (w := (wr.alloc (.cells (wrCells (x, s)).toArray 64)).drew) hS0.2.2.2 _ _ _⟩
  · rw [World.cell?_setCells_out _ _ _ _ _ (fun e => absurd e hD.ne1)]; exact hS0.1
  · rw [World.cell?_setCells_out _ _ _ _ _ (fun e => absurd e.symm hsb)]; exact hS0.2.1

theorem crashTo_kept {zs : List Int} {torn cut : Int} {f : Nat → Sec} {ps : List Wr} {k : Nat} {p : Wr} (hp : ps[k]? = some p) (h : (k : Int) ∈ zs) : crashTo zs torn cut f ps (k + 1) = upd (crashTo zs torn cut f ps k) p.1 p.2 := by
  simp [crashTo, hp, crashStep, h]
theorem crashTo_torn {zs : List Int} {torn cut : Int} {f : Nat → Sec} {ps : List Wr} {k : Nat} {p : Wr} (hp : ps[k]? = some p) (h : ¬ (k : Int) ∈ zs) (h2 : (k : Int) = torn ∧ 0 < cut ∧ cut < 128) : crashTo zs torn cut f ps (k + 1) = upd (crashTo zs torn cut f ps k) p.1 (tear (crashTo zs torn cut f ps k p.1) p.2 cut.toNat) := by
  simp only [crashTo, hp, crashStep, if_neg h, if_pos h2]
theorem crashTo_lost {zs : List Int} {torn cut : Int} {f : Nat → Sec} {ps : List Wr} {k : Nat} {p : Wr} (hp : ps[k]? = some p) (h : ¬ (k : Int) ∈ zs) (h2 : ¬ ((k : Int) = torn ∧ 0 < cut ∧ cut < 128)) : crashTo zs torn cut f ps (k + 1) = crashTo zs torn cut f ps k := by
  simp only [crashTo, hp, crashStep, if_neg h, if_neg h2]

set_option maxHeartbeats 1000000 in
theorem crash_v {K : Nat → Prop} {w : World} {L : Loc} {S : St} (h : IsDisk K w L S) (kv : Value) (zs : List Int) (hkv : Ints w kv zs) (torn cut : Int) :
    Calls Try.prog 11 #[.pointer (some ⟨L.b, 0, none⟩), .agg #[kv, .int .i64 torn, .int .i64 cut]] w fun e w' => e = .returned (.int .i64 (keptTo zs S.waits.length : Nat)) ∧ IsDisk K w' { L with wv := .slice none 0 0 } (S.crashed zs torn cut) ∧ Kept K w w' := by
  have H : Hid (IsDisk K w L S) := h
  have HKV : Hid (Ints w kv zs) := hkv
  obtain ⟨a, cap, hwv⟩ := wv_shape h.waits
  obtain ⟨a9, cap9, hkv9⟩ : ∃ a9 cap9, kv = .slice a9 zs.length cap9 := by obtain ⟨_, a9, cap9, e, _⟩ := hkv; exact ⟨a9, cap9, e⟩
  have hmany := h.ok.many
  have HW : Hid (L.wv = .slice a S.waits.length cap) := hwv
  obtain ⟨q, hq⟩ : ∃ q, S.waits.length = q := ⟨_, rfl⟩
  have HQ : Hid (S.waits.length = q) := hq
  rw [hq] at hmany
  have c1 : (w.alloc (.cells #[kv, .int .i64 torn, .int .i64 cut] 33)).cell? ⟨L.b, 1, none⟩ = some (.slice a q cap) := by rw [← hq, ← hwv]; exact (h.alloc _).head.cell.2.1
  have c9 : (w.alloc (.cells #[kv, .int .i64 torn, .int .i64 cut] 33)).cell? ⟨w.heap.size, 0, none⟩ = some kv := by rw [cell_of_row _ _ _ _ _ _ (heap_alloc_last w _)]; rfl
  subst hkv9
  obtain ⟨X, hX⟩ : ∃ X, X = Obj.cells #[.slice a9 zs.length cap9, .int .i64 torn, .int .i64 cut] 33 := ⟨_, rfl⟩
  have b2 : ((w.alloc X).drew.alloc (.cells (markA zs q) 4)).cell? ⟨w.heap.size, 0, none⟩ = some (.slice a9 zs.length cap9) ∧ ((w.alloc X).drew.alloc (.cells (markA zs q) 4)).cell? ⟨L.b, 1, none⟩ = some (.slice a q cap) := by
    rw [hX]
    refine ⟨?_, ?_⟩
    · rw [World.cell?_alloc_lt _ _ _ (by simp)]; exact c9
    · rw [World.cell?_alloc_lt _ _ _ (by have := h.head.lt; simp; omega)]; exact c1
  have HC : Hid (((w.alloc X).cell? ⟨w.heap.size, 0, none⟩ = some (.slice a9 zs.length cap9) ∧ (w.alloc X).cell? ⟨L.b, 1, none⟩ = some (.slice a q cap))) := by rw [hX]; exact ⟨c9, c1⟩
  have HC2 : Hid (((w.alloc X).drew.alloc (.cells (markA zs q) 4)).cell? ⟨w.heap.size, 0, none⟩ = some (.slice a9 zs.length cap9) ∧ ((w.alloc X).drew.alloc (.cells (markA zs q) 4)).cell? ⟨L.b, 1, none⟩ = some (.slice a q cap)) := b2
  have HI : Hid (Ints (w.alloc X).drew (.slice a9 zs.length cap9) zs) := (HKV.out.kept ((Below.refl _ w).alloc (Nat.le_refl _) X)).kept (Below.refl _ _).drew
  rw [hX] at HC HC2 HI
  clear h hkv hwv hq b2 hX
  go_enter Try.func11, Try.ntmps11
  go_wp2_with fail
  go_region_held3 (fun w' => w'.cell? ⟨w.heap.size, 0, none⟩ = some (.slice a9 zs.length cap9) ∧ w'.cell? ⟨L.b, 1, none⟩ = some (.slice a q cap)) (first | exact HC.out | exact HC2.out) (first | (go_at_call 23; refine (marks_v _ _ zs q HI.out hmany).mono ?_; rintro e w1 ⟨rfl, rfl⟩))
  obtain ⟨W1, hW1⟩ : ∃ W1, ((w.alloc (.cells #[.slice a9 zs.length cap9, .int .i64 torn, .int .i64 cut] 33)).alloc (.cells (markA zs q) 4)).drew = W1 := ⟨_, rfl⟩
  rw [hW1]
  have hx1 : W1.cell? ⟨w.heap.size, 1, none⟩ = some (.int .i64 torn) := by
    rw [← hW1]
    show ((w.alloc (.cells #[.slice a9 zs.length cap9, .int .i64 torn, .int .i64 cut] 33)).alloc _).cell? _ = _
    rw [World.cell?_alloc_lt _ _ _ (by simp), cell_of_row _ _ _ _ _ _ (heap_alloc_last w _)]; rfl
  have hx2 : W1.cell? ⟨w.heap.size, 2, none⟩ = some (.int .i64 cut) := by
    rw [← hW1]
    show ((w.alloc (.cells #[.slice a9 zs.length cap9, .int .i64 torn, .int .i64 cut] 33)).alloc _).cell? _ = _
    rw [World.cell?_alloc_lt _ _ _ (by simp), cell_of_row _ _ _ _ _ _ (heap_alloc_last w _)]; rfl
  have hmk : ∀ j, j < q → W1.cell? ⟨w.heap.size + 1, j, none⟩ = some (.bool (decide ((j : Int) ∈ zs))) := by
    intro j hj
    rw [← hW1]
    have := heap_alloc_last (w.alloc (.cells #[.slice a9 zs.length cap9, .int .i64 torn, .int .i64 cut] 33)) (.cells (markA zs q) 4)
    rw [World.size_alloc] at this
    show ((w.alloc (.cells #[.slice a9 zs.length cap9, .int .i64 torn, .int .i64 cut] 33)).alloc _).cell? _ = _
    rw [cell_of_row _ _ _ _ _ _ this, markA_get _ _ _ hj]
  have hD1 : IsDisk (fun k => K k ∨ k = w.heap.size ∨ k = w.heap.size + 1) W1 L S := by
    rw [← hW1]
    refine ((H.out.alloc _).alloc _).drew.turnK ?_ ?_
    · rintro k hf (hk | rfl | rfl)
      · exact H.out.nK k hf hk
      · have := H.out.lt _ hf; omega
      · have := H.out.lt _ hf; omega
    · rintro k (hk | rfl | rfl)
      · have := H.out.kl k hk; show k < ((w.alloc _).alloc _).heap.size; simp; omega
      · show w.heap.size < ((w.alloc _).alloc _).heap.size; simp; omega
      · show w.heap.size + 1 < ((w.alloc _).alloc _).heap.size; simp
  have hK1 : Kept K w W1 := by
    rw [← hW1]
    refine (((Kept.refl K w).alloc H.out.kl _).alloc ?_ _).drew
    intro k hk; have := H.out.kl k hk; simp; omega
  have HX1 : Hid _ := hx1
  have HX2 : Hid _ := hx2
  have HMK : Hid (∀ j, j < q → W1.cell? ⟨w.heap.size + 1, j, none⟩ = some (.bool (decide ((j : Int) ∈ zs)))) := hmk
  have HD1 : Hid (IsDisk (fun k => K k ∨ k = w.heap.size ∨ k = w.heap.size + 1) W1 L S) := hD1
  have HK1 : Hid (Kept K w W1) := hK1
  have c1' : W1.cell? ⟨L.b, 1, none⟩ = some (.slice a q cap) := by rw [← HQ.out, ← HW.out]; exact hD1.head.cell.2.1
  clear hW1 hx1 hx2 hmk hD1 hK1 c1 c9
  have hz64 := Try.zeroWr
  have hs64 := Try.storeWr0
  have hl64 := wrCells_length
  go_wp2_with fail
  go_loopw [6, 22] (fun c i wr => ∃ k : Nat, k ≤ q ∧ i = .int .i64 k ∧ c = .int .i64 (keptTo zs k : Nat) ∧ IsDisk (fun k => K k ∨ k = w.heap.size ∨ k = w.heap.size + 1) wr L { S with safe := crashTo zs torn cut S.safe S.waits k } ∧ Kept (fun k => K k ∨ k = w.heap.size ∨ k = w.heap.size + 1) W1 wr) (fun _ i _ => q - (intOf i).toNat)
  case atStart => exact ⟨0, by omega, rfl, rfl, HD1.out, Kept.refl _ _⟩
  case round =>
    obtain ⟨k, hk, rfl, rfl, hD, hKp⟩ := hrel
    have HD : Hid (IsDisk (fun k => K k ∨ k = w.heap.size ∨ k = w.heap.size + 1) wr L { S with safe := crashTo zs torn cut S.safe S.waits k }) := hD
    have HKP : Hid (Kept (fun k => K k ∨ k = w.heap.size ∨ k = w.heap.size + 1) W1 wr) := hKp
    by_cases hlt : k < q
    · have hkq : k < S.waits.length := by rw [HQ.out]; exact hlt
      have hkt := keptTo_le zs k
      have HKT : Hid (keptTo zs (k + 1) = keptTo zs k + (if (k : Int) ∈ zs then 1 else 0)) := rfl
      obtain ⟨kt, hkte⟩ : ∃ kt, keptTo zs k = kt := ⟨_, rfl⟩
      rw [hkte] at hkt HKT ⊢
      clear hkte
      obtain ⟨p, hp⟩ : ∃ p, S.waits[k]? = some p := ⟨_, List.getElem?_eq_getElem hkq⟩
      obtain ⟨g, cap', hwv', hcap, hrg⟩ := waits_at hD.waits hp
      obtain ⟨rfl, rfl⟩ : a = some ⟨g, 0, none⟩ ∧ cap = cap' := by
        have := HW.out.symm.trans hwv'
        simp only [Value.slice.injEq] at this
        exact ⟨this.1, this.2.2⟩
      have HRG : Hid (wr.rangeAt g (129 * k) (wrCells p)) := hrg
      have hpn : p.1 < S.n := hD.ok.at' p (List.mem_of_getElem? hp)
      have hn := hD.ok.n2
      obtain ⟨x, s⟩ := p
      simp only at hpn
      have HS0 : Hid _ := box_reads hD x s hpn
      have HS1 : Hid (∀ cs, _) := box_reads2 hD x s hpn
      have hbox : w.heap.size + 1 < wr.heap.size := by have := hD.kl (w.heap.size + 1) (.inr (.inr rfl)); exact this
      have hmkk : (wr.alloc (.cells (wrCells (x, s)).toArray 64)).cell? ⟨w.heap.size + 1, k, none⟩ = some (.bool (decide ((k : Int) ∈ zs))) := by
        rw [World.cell?_alloc_lt _ _ _ hbox, hKp.cell (p := ⟨w.heap.size + 1, k, none⟩) (.inr (.inr rfl))]; exact HMK.out k hlt
      have hxk1 : (wr.alloc (.cells (wrCells (x, s)).toArray 64)).cell? ⟨w.heap.size, 1, none⟩ = some (.int .i64 torn) := by
        rw [World.cell?_alloc_lt _ _ _ (by simp only; omega), hKp.cell (p := ⟨w.heap.size, 1, none⟩) (.inr (.inl rfl))]; exact HX1.out
      have hxk2 : (wr.alloc (.cells (wrCells (x, s)).toArray 64)).cell? ⟨w.heap.size, 2, none⟩ = some (.int .i64 cut) := by
        rw [World.cell?_alloc_lt _ _ _ (by simp only; omega), hKp.cell (p := ⟨w.heap.size, 2, none⟩) (.inr (.inl rfl))]; exact HX2.out
      have i1 : (0 : Int) ≤ (x : Int) := by omega
      have i2 : (x : Int) < (S.n : Int) := by omega
      have HP : Hid (S.waits[k]? = some (x, s)) := hp
      by_cases hin : (k : Int) ∈ zs
      · have HF : Hid (IsDisk (fun k => K k ∨ k = w.heap.size ∨ k = w.heap.size + 1) ((wr.alloc (.cells (wrCells (x, s)).toArray 64)).drew.setCells L.sb (x * 128) s.cells) L { S with safe := crashTo zs torn cut S.safe S.waits (k + 1) } ∧ Kept (fun k => K k ∨ k = w.heap.size ∨ k = w.heap.size + 1) W1 ((wr.alloc (.cells (wrCells (x, s)).toArray 64)).drew.setCells L.sb (x * 128) s.cells)) := by
          refine ⟨?_, (hKp.alloc hD.kl _).drew.setCells (hD.nK _ (.inr (.inl rfl))) _ _⟩
          rw [crashTo_kept hp hin, Nat.mul_comm x 128]
          exact (hD.alloc _).drew.store x s hpn
        have HIN : Hid (keptTo zs (k + 1) = kt + 1) := by rw [HKT.out, if_pos hin]; rfl
        rw [decide_eq_true hin] at hmkk
        have u54 := Try.underlying54
        have z54 : (Try.prog.info? 54).map (·.size) = some s.cells.length := by rw [Sec.cells_length]; exact Try.sizeSec
        have l54 : s.cells.length = 128 := Sec.cells_length s
        have o54 := s.cells_one
        clear hD hKp hwv' hrg hp hin
        go_wp2_with (refine wpList_load_mid rfl 64 _ rfl _ _ rfl (wrCells (x, s)) _ (by rw [Nat.mul_comm]; exact HRG.out) Try.underlying64 rfl (by rw [wrCells_length]; exact Try.sizeWr) ?_)
        go_region_held3 (fun w' => w'.cell? ⟨L.b, 0, none⟩ = some (.slice (some ⟨L.sb, 0, none⟩) S.n S.n) ∧ w'.cell? ⟨wr.heap.size, 0, none⟩ = some (.int .i64 (x : Nat)) ∧ w'.rangeAt wr.heap.size 1 s.cells ∧ w'.there L.sb (x * 128) 128) (first | exact HS0.out | exact HS1.out _) (fail)
        go_wp2
        go_roundw
        case rel => exact ⟨k + 1, by omega, by simp, by rw [HIN.out]; first | rfl | (simp; done) | go_num | (simp; omega), HF.out.1, HF.out.2⟩
        case measure => simp [intOf]; omega
      · have HIN : Hid (keptTo zs (k + 1) = kt) := by rw [HKT.out, if_neg hin]; rfl
        rw [decide_eq_false hin] at hmkk
        by_cases htorn : (k : Int) = torn ∧ 0 < cut ∧ cut < 128
        · obtain ⟨t1, t2, t3⟩ := htorn
          subst t1
          obtain ⟨c, rfl⟩ := Int.eq_ofNat_of_zero_le (show 0 ≤ cut by omega)
          have hc1 : 0 < c := by omega
          have hc2 : c < 128 := by omega
          have HF : Hid (IsDisk (fun k => K k ∨ k = w.heap.size ∨ k = w.heap.size + 1) ((wr.alloc (.cells (wrCells (x, s)).toArray 64)).drew.setCells L.sb (x * 128) (s.cells.take c)) L { S with safe := crashTo zs (k : Nat) (c : Nat) S.safe S.waits (k + 1) } ∧ Kept (fun k => K k ∨ k = w.heap.size ∨ k = w.heap.size + 1) W1 ((wr.alloc (.cells (wrCells (x, s)).toArray 64)).drew.setCells L.sb (x * 128) (s.cells.take c))) := by
            refine ⟨?_, (hKp.alloc hD.kl _).drew.setCells (hD.nK _ (.inr (.inl rfl))) _ _⟩
            rw [crashTo_torn hp hin ⟨rfl, t2, t3⟩, Nat.mul_comm x 128]
            exact (hD.alloc _).drew.tears x s c (by omega) hpn
          have hsb : L.sb ≠ w.heap.size := fun e => hD.nK _ (.inr (.inl rfl)) (.inr (.inl e))
          have hxk3 : ((wr.alloc (.cells (wrCells (x, s)).toArray 64)).drew.setCells L.sb (x * 128) (s.cells.take c)).cell? ⟨w.heap.size, 2, none⟩ = some (.int .i64 (c : Nat)) := by
            rw [World.cell?_setCells_out _ _ _ _ _ (fun e => absurd e.symm hsb)]; exact hxk2
          have HB0 : Hid ((wr.alloc (.cells (wrCells (x, s)).toArray 64)).cell? ⟨L.b, 0, none⟩ = some (.slice (some ⟨L.sb, 0, none⟩) S.n S.n) ∧ (wr.alloc (.cells (wrCells (x, s)).toArray 64)).cell? ⟨wr.heap.size, 0, none⟩ = some (.int .i64 (x : Nat)) ∧ (wr.alloc (.cells (wrCells (x, s)).toArray 64)).cell? ⟨w.heap.size, 2, none⟩ = some (.int .i64 (c : Nat))) := ⟨HS0.out.1, HS0.out.2.1, hxk2⟩
          have HB1 : Hid (((wr.alloc (.cells (wrCells (x, s)).toArray 64)).drew.setCells L.sb (x * 128) (s.cells.take c)).cell? ⟨L.b, 0, none⟩ = some (.slice (some ⟨L.sb, 0, none⟩) S.n S.n) ∧ ((wr.alloc (.cells (wrCells (x, s)).toArray 64)).drew.setCells L.sb (x * 128) (s.cells.take c)).cell? ⟨wr.heap.size, 0, none⟩ = some (.int .i64 (x : Nat)) ∧ ((wr.alloc (.cells (wrCells (x, s)).toArray 64)).drew.setCells L.sb (x * 128) (s.cells.take c)).cell? ⟨w.heap.size, 2, none⟩ = some (.int .i64 (c : Nat))) := ⟨(HS1.out _).1, (HS1.out _).2.1, hxk3⟩
          have HLN : Hid ((s.cells.take c).length = c) := by show _ = _; rw [List.length_take, Sec.cells_length]; omega
          have HSRC : Hid (∀ j v, (s.cells.take c)[j]? = some v → (wr.alloc (.cells (wrCells (x, s)).toArray 64)).drew.cell? ((⟨wr.heap.size, 1, none⟩ : Addr).add j) = some v) := by
            intro j v hv
            have hj : j < c := by have := (List.getElem?_eq_some_iff.1 hv).1; rwa [HLN.out] at this
            rw [List.getElem?_take_of_lt hj] at hv
            rw [Addr.add_mid]
            exact HS0.out.2.2.1 j v hv
          have HTH : Hid ((wr.alloc (.cells (wrCells (x, s)).toArray 64)).drew.there L.sb (x * 128) (s.cells.take c).length) := fun j hj => HS0.out.2.2.2 j (by rw [HLN.out] at hj; omega)
          have HO1 : Hid (∀ v ∈ s.cells.take c, v.oneCell' = true) := fun v hv => s.cells_one v (List.mem_of_mem_take hv)
          have HN : Hid ((s.cells.take c).length = Nat.min 128 c) := by show _ = _; rw [HLN.out]; exact (Nat.min_eq_right (by omega)).symm
          have j1 : (0 : Int) ≤ (c : Int) := by omega
          have j2 : (c : Int) ≤ 128 := by omega
          clear hD hKp hwv' hrg hp hin hxk3 HS0 HS1
          go_wp2_with (refine wpList_load_mid rfl 64 _ rfl _ _ rfl (wrCells (x, s)) _ (by rw [Nat.mul_comm]; exact HRG.out) Try.underlying64 rfl (by rw [wrCells_length]; exact Try.sizeWr) ?_)
          go_region_held3 (fun w' => w'.cell? ⟨L.b, 0, none⟩ = some (.slice (some ⟨L.sb, 0, none⟩) S.n S.n) ∧ w'.cell? ⟨wr.heap.size, 0, none⟩ = some (.int .i64 (x : Nat)) ∧ w'.cell? ⟨w.heap.size, 2, none⟩ = some (.int .i64 (c : Nat))) (first | exact HB0.out | exact HB1.out) ((refine step_copy_mid (by rfl) _ _ 22 22 (by rfl) 5 Try.underlying22 Try.sizeU8 L.sb (x * 128) c 128 ⟨wr.heap.size, 1, none⟩ 128 128 (by rfl) (by rfl) (s.cells.take c) HN.out HSRC.out HTH.out HO1.out ?_))
          go_wp2
          go_roundw
          case rel => exact ⟨k + 1, by omega, by simp, by rw [HIN.out], HF.out.1, HF.out.2⟩
          case measure => simp [intOf]; omega
        · have HF : Hid (IsDisk (fun k => K k ∨ k = w.heap.size ∨ k = w.heap.size + 1) (wr.alloc (.cells (wrCells (x, s)).toArray 64)) L { S with safe := crashTo zs torn cut S.safe S.waits (k + 1) } ∧ Kept (fun k => K k ∨ k = w.heap.size ∨ k = w.heap.size + 1) W1 (wr.alloc (.cells (wrCells (x, s)).toArray 64))) := by
            refine ⟨?_, hKp.alloc hD.kl _⟩
            rw [crashTo_lost hp hin htorn]
            exact hD.alloc _
          clear hD hKp hwv' hrg hp hin HS0 HS1
          by_cases t1 : (k : Int) = torn
          · subst t1
            by_cases t2 : 0 < cut
            · have t3 : 128 ≤ cut := by omega
              clear htorn
              go_wp2_with (refine wpList_load_mid rfl 64 _ rfl _ _ rfl (wrCells (x, s)) _ (by rw [Nat.mul_comm]; exact HRG.out) Try.underlying64 rfl (by rw [wrCells_length]; exact Try.sizeWr) ?_)
              go_roundw
              case rel => exact ⟨k + 1, by omega, by simp, by rw [HIN.out], HF.out.1, HF.out.2⟩
              case measure => simp [intOf]; omega
            · clear htorn
              go_wp2_with (refine wpList_load_mid rfl 64 _ rfl _ _ rfl (wrCells (x, s)) _ (by rw [Nat.mul_comm]; exact HRG.out) Try.underlying64 rfl (by rw [wrCells_length]; exact Try.sizeWr) ?_)
              go_roundw
              case rel => exact ⟨k + 1, by omega, by simp, by rw [HIN.out], HF.out.1, HF.out.2⟩
              case measure => simp [intOf]; omega
          · clear htorn
            go_wp2_with (refine wpList_load_mid rfl 64 _ rfl _ _ rfl (wrCells (x, s)) _ (by rw [Nat.mul_comm]; exact HRG.out) Try.underlying64 rfl (by rw [wrCells_length]; exact Try.sizeWr) ?_)
            go_roundw
            case rel => exact ⟨k + 1, by omega, by simp, by rw [HIN.out], HF.out.1, HF.out.2⟩
            case measure => simp [intOf]; omega
    · obtain rfl : k = q := by omega
      clear hD hKp
      go_wp2_with fail
      refine (forget_v HD.out).mono ?_
      rintro e w4 ⟨⟨v, rfl⟩, h4, k4⟩
      have c4 := h4.head.cell.2.2.2.2
      have f4 := h4.head.frozen 4
      have H4 : Hid (IsDisk K (w4.setCell ⟨L.b, 4, none⟩ (.int .i64 (-1))) { L with wv := .slice none 0 0 } (S.crashed zs torn cut)) := by
        have := (h4.less (K' := K) (fun k hk => .inl hk)).setLeft (-1) (by omega) (by omega)
        have e : (S.crashed zs torn cut) = { S with safe := crashTo zs torn cut S.safe S.waits k, waits := [], left := -1 } := by rw [St.crashed, HQ.out]
        rw [e]
        exact this
      have K4 : Hid (Kept K w (w4.setCell ⟨L.b, 4, none⟩ (.int .i64 (-1)))) := by
        refine (HK1.out.trans ((HKP.out.trans k4).mono (fun k hk => .inl hk))).setCell ?_ _
        exact fun hk => H.out.nK _ (.inl rfl) hk
      clear h4 k4
      go_wp2
      go_ret
      exact ⟨by rw [HQ.out]; rfl, H4.out, K4.out⟩
end Go.Proofs.Ytjjodmppneonjaa
