/- Contracts of 'Read' and of a reading's 'Text'. -/
import Derived.Test.YtclondljjfljpaaWalkRead4
import Derived.Deep.RegionHeld3
namespace Go.Proofs.Ytclondljjfljpaa
open Go.RowKit
set_option linter.unusedVariables false

set_option maxHeartbeats 400000 in
theorem read_octs (v : Value) (zs : List Nat) (w : World) (h : Octs w v zs) (hlen : zs.length ≤ 100000) :
    Calls Try.prog 11 #[v] w fun e w' => ∃ p, e = .returned (.pointer (some ⟨p, 0, none⟩)) ∧ IsR w' p ⟨zs, false⟩ ∧ Below w.heap.size w w' ∧ w.heap.size ≤ p := by
  obtain ⟨i0, hi, hz0, hz1, hz2⟩ := info_parts Try.infoU8'
  have HO : Hid (Octs w v zs) := h
  obtain ⟨a, cap, rfl⟩ := h.shape
  clear h
  go_enter Try.func11, Try.ntmps11
  go_wp2_with (at_builtin; refine wpList_append_octs _ rfl _ _ 25 rfl w.heap.size 5 i0 Try.underlying25 hi hz0 hz1 hz2 _ 0 [] rfl (World.ownsRow_made _ #[] 0 (Nat.le_refl _) (by decide) rfl) _ zs rfl (HO.out.alloc _) ?d1 ?d2 ?_)
  case d1 => omega
  case d2 => simp
  intro v2 w2 hown2 hg2
  have HB2 : Hid (Below w.heap.size w w2) := ((Below.refl _ _).alloc (Nat.le_refl _) _).trans (below_grown (World.ownsRow_made _ #[] 0 (Nat.le_refl _) (by decide) rfl) hg2 (by simp))
  have HO2 : Hid (Octs w2 v2 zs) := Octs.owned (by simpa using hown2) HO.out.small
  obtain ⟨a2, cap2, rfl⟩ := HO2.out.shape
  clear hown2 hg2
  go_wp2
  go_ret
  exact ⟨_, rfl, ⟨_, heap_alloc_new w2 _, HO2.out.alloc _⟩, HB2.out.alloc HB2.out.size _, HB2.out.size⟩

/-! ### Two octets as a number -/
/-- The number of octets, the least first. -/
def getL : List Nat → Nat
  | [] => 0
  | b :: r => b + 256 * getL r
theorem getN_getL (zs : List Nat) : getN (zs.map Int.ofNat) = (getL zs : Nat) := by
  induction zs with
  | nil => rfl
  | cons z r ih => simp only [List.map_cons, getN, ih, getL, Int.ofNat_eq_natCast]; omega
theorem getL_lt (zs : List Nat) (h : ∀ z ∈ zs, z < 256) : getL zs < 256 ^ zs.length := by
  induction zs with
  | nil => simp [getL]
  | cons z r ih =>
    have h1 := h z (by simp)
    have h2 := ih fun y hy => h y (by simp [hy])
    simp only [getL, List.length_cons, Nat.pow_succ]
    omega
theorem getO_two (zs : List Nat) (h : ∀ z ∈ zs, z < 256) (hl : zs.length ≤ 2) : getO zs = (getL zs : Nat) ∧ getL zs < 65536 := by
  have h1 := getL_lt zs h
  have h2 : (256 : Nat) ^ zs.length ≤ 65536 := by
    have : zs.length = 0 ∨ zs.length = 1 ∨ zs.length = 2 := by omega
    rcases this with e | e | e <;> rw [e] <;> decide
  unfold getO getI
  rw [List.take_of_length_le (by rw [List.length_map]; omega), getN_getL]
  unfold wrap64
  omega

/-! ### Text -/
theorem enters_text : Enters 41 := fun _ _ => rfl
theorem enters_text2 : Enters 42 := fun _ _ => rfl

theorem text_use (v : Value) (zs : List Nat) (q : Nat) (w : World) (h : Octs w v zs) (u : Value) (hq : w.heap[q]? = some (.cells #[u] 9 (0, 0))) :
    Calls Try.prog 42 #[v, .pointer (some ⟨q, 0, none⟩)] w fun e w' => e = .returned (.tuple #[]) ∧ w' = w.setCell ⟨q, 0, none⟩ (.string (strN zs)) := by
  have cq := cell_of_one hq
  have fq := free_of_one hq
  have hc := conv_octs (P := Try.prog) h 25 5 9 Try.underlying25 Try.underlying5 Try.underlying9
  obtain ⟨a, cap, rfl⟩ := h.shape
  clear h hq
  go_enter Try.func42, Try.ntmps42
  go_wp2
  go_end0
  exact ⟨rfl, rfl⟩

theorem noOct_one {w : World} {q : Nat} {u : Value} {t : TypeId} (hq : w.heap[q]? = some (.cells #[u] t (0, 0))) (hu : ∀ z, u ≠ .int .u8 z) : NoOct w q := by
  intro i z e
  rw [cell_of_row w _ _ _ _ _ hq] at e
  match i, e with
  | 0, e => exact hu z (by simpa using e)
  | i + 1, e => simp at e

/-- The inner 'take': the text's own octets, into the variable at block q. -/
theorem take_text {w : World} {p q : Nat} {s : RS} (hR : IsR w p s) (n : Nat) (hpq : p ≠ q) (hq : w.heap[q]? = some (.cells #[.string ByteArray.empty] 9 (0, 0))) :
    Calls Try.prog 30 #[.pointer (some ⟨p, 0, none⟩), .int .i64 n, .func (.func 42) #[] #[.pointer (some ⟨q, 0, none⟩)]] w fun e w' =>
      e = .returned (.tuple #[]) ∧ w'.cell? ⟨q, 0, none⟩ = some (.string (strN (s.oct n))) ∧ IsR w' p (s.off n) ∧ Kept (fun k => k < w.heap.size ∧ k ≠ p ∧ k ≠ q) w w' := by
  have hql := lt_of_heap hq
  by_cases h : s.can n = true
  · have h2 := RS.can_iff.1 h
    have hR' : IsR w p ⟨s.zs, false⟩ := by rwa [show s = ⟨s.zs, false⟩ from by rw [← h2.1]] at hR
    rw [show s.oct n = s.zs.take n from if_pos h, show s.off n = ⟨s.zs.drop n, false⟩ from if_pos h]
    refine take_ok _ _ enters_text2 n hR' h2.2 (fun w' => w'.cell? ⟨q, 0, none⟩ = some (.string (strN (s.zs.take n))) ∧ IsR w' p ⟨s.zs.drop n, false⟩ ∧ Kept (fun k => k < w.heap.size ∧ k ≠ p ∧ k ≠ q) w w') fun w1 a c ho hr hk hs => ?_
    have hq1 : w1.heap[q]? = some (.cells #[.string ByteArray.empty] 9 (0, 0)) := (hk.heap hql (by omega)).trans hq
    refine (text_use _ _ q w1 ho _ hq1).mono ?_
    rintro e w' ⟨rfl, rfl⟩
    refine ⟨rfl, cell_of_one (one_setCell hq1), hr.only (noOct_one hq1 (by simp)) hpq ((Only.refl _ _).setCell 0 _), ?_⟩
    exact (Kept.mono hk fun k hk => ⟨hk.1, hk.2.1⟩).setCell (fun hk => hk.2.2 rfl) _
  · rw [show s.oct n = [] from if_neg h, show s.off n = .failed from if_neg h]
    refine (take_fails _ n hR (RS.cannot h)).mono ?_
    rintro e w' ⟨rfl, hr, hk, _⟩
    exact ⟨rfl, cell_of_one ((hk.heap hql (by omega)).trans hq), hr, Kept.mono hk fun k hk => ⟨hk.1, hk.2.1⟩⟩

theorem text_mid (v : Value) (zs : List Nat) (b1 p q : Nat) (s : RS) (w : World) (h : Octs w v zs) (hl : zs.length ≤ 2) (hR : IsR w p s) (hpq : p ≠ q) (hbp : b1 ≠ p) (hbq : b1 ≠ q)
    (hb : w.heap[b1]? = some (.cells #[.pointer (some ⟨p, 0, none⟩)] 28 (0, 0))) (hq : w.heap[q]? = some (.cells #[.string ByteArray.empty] 9 (0, 0))) :
    Calls Try.prog 41 #[v, .pointer (some ⟨b1, 0, none⟩), .pointer (some ⟨q, 0, none⟩)] w fun e w' =>
      e = .returned (.tuple #[]) ∧ w'.cell? ⟨q, 0, none⟩ = some (.string (strN (s.oct (getL zs)))) ∧ IsR w' p (s.off (getL zs)) ∧ Kept (fun k => k < w.heap.size ∧ k ≠ p ∧ k ≠ q) w w' := by
  have hmf : ∀ (fn : Fn) (first cap : Array Value) (w : World), (Instr.makeFunc fn first cap).run Try.prog w = .ok (.func fn first cap) w := fun _ _ _ _ => rfl
  have cb := cell_of_one hb
  have hbl := lt_of_heap hb
  have HG : Hid (getO zs = (getL zs : Nat)) := (getO_two zs h.small hl).1
  have H : Hid (Octs w v zs) := h
  have HR : Hid (IsR w p s) := hR
  have HQ : Hid (w.heap[q]? = some (.cells #[.string ByteArray.empty] 9 (0, 0))) := hq
  have HC : Hid (w.cell? ⟨b1, 0, none⟩ = some (.pointer (some ⟨p, 0, none⟩))) := cb
  obtain ⟨a, cap, rfl⟩ := h.shape
  clear h hR hq hb hl
  go_enter Try.func41, Try.ntmps41
  go_wp2
  go_region_held3 (fun w' => w'.cell? ⟨b1, 0, none⟩ = some (.pointer (some ⟨p, 0, none⟩))) (first | exact HC.out | exact (hk1.cell (p := ⟨b1, 0, none⟩) ⟨hbl, hbp, hbq⟩).trans HC.out) (first
    | (go_at_call 33; refine (get_octs _ _ _ H.out.drew).mono ?_; rintro e w1 ⟨rfl, rfl⟩; rw [HG.out])
    | (go_at_call 30; refine (take_text HR.out.drew (getL zs) hpq HQ.out).mono ?_; rintro e w1 ⟨rfl, hc1, hr1, hk1⟩))
  all_goals (try go_wp2)
  all_goals go_end0
  all_goals exact ⟨rfl, hc1, hr1, Kept.undrew (a := w) hk1⟩

/-- A text is taken off: how many octets it has, in two octets, and these. -/
def RS.text (s : RS) : List Nat := (s.off 2).oct (getL (s.oct 2))
def RS.offText (s : RS) : RS := (s.off 2).off (getL (s.oct 2))
theorem failed_oct (n : Nat) : RS.failed.oct n = [] := rfl
theorem failed_off (n : Nat) : RS.failed.off n = .failed := rfl
set_option maxHeartbeats 400000 in
theorem rtext_any {w : World} {p : Nat} {s : RS} (hR : IsR w p s) :
    Calls Try.prog 15 #[.pointer (some ⟨p, 0, none⟩)] w fun e w' => e = .returned (.string (strN s.text)) ∧ IsR w' p s.offText ∧ Only p w w' := by
  have hmf : ∀ (fn : Fn) (first cap : Array Value) (w : World), (Instr.makeFunc fn first cap).run Try.prog w = .ok (.func fn first cap) w := fun _ _ _ _ => rfl
  have hlt := hR.lt
  have H : Hid (IsR ((w.alloc (.cells #[.pointer (some ⟨p, 0, none⟩)] 28)).alloc (.cells #[.string ByteArray.empty] 9)) p s) := (hR.alloc _).alloc _
  clear hR
  have HB : Hid (((w.alloc (.cells #[.pointer (some ⟨p, 0, none⟩)] 28)).alloc (.cells #[.string ByteArray.empty] 9)).heap[w.heap.size]? = some (.cells #[.pointer (some ⟨p, 0, none⟩)] 28 (0, 0))) :=
    (Below.heap_alloc _ _ _ (by simp)).trans (heap_alloc_new w _)
  have HQ : Hid (((w.alloc (.cells #[.pointer (some ⟨p, 0, none⟩)] 28)).alloc (.cells #[.string ByteArray.empty] 9)).heap[w.heap.size + 1]? = some (.cells #[.string ByteArray.empty] 9 (0, 0))) := by
    have := heap_alloc_new (w.alloc (.cells #[.pointer (some ⟨p, 0, none⟩)] 28)) (.cells #[.string ByteArray.empty] 9)
    rw [show (w.alloc (.cells #[.pointer (some ⟨p, 0, none⟩)] 28)).heap.size = w.heap.size + 1 by simp] at this
    exact this
  have HS : Hid (((w.alloc (.cells #[.pointer (some ⟨p, 0, none⟩)] 28)).alloc (.cells #[.string ByteArray.empty] 9)).heap.size = w.heap.size + 2) := by unfold Hid; simp
  have HO : Hid (Only p w ((w.alloc (.cells #[.pointer (some ⟨p, 0, none⟩)] 28)).alloc (.cells #[.string ByteArray.empty] 9))) := ((Only.refl p w).alloc _).alloc _
  have h2 : ((2 : Nat) : Int) = 2 := rfl
  by_cases h : s.can 2 = true
  · have hc := RS.can_iff.1 h
    have HE : Hid (s.text = RS.oct ⟨s.zs.drop 2, false⟩ (getL (s.zs.take 2)) ∧ s.offText = RS.off ⟨s.zs.drop 2, false⟩ (getL (s.zs.take 2))) := by
      unfold Hid RS.text RS.offText
      rw [show s.oct 2 = s.zs.take 2 from if_pos h, show s.off 2 = ⟨s.zs.drop 2, false⟩ from if_pos h]
      exact ⟨rfl, rfl⟩
    have H' : Hid (IsR ((w.alloc (.cells #[.pointer (some ⟨p, 0, none⟩)] 28)).alloc (.cells #[.string ByteArray.empty] 9)) p ⟨s.zs, false⟩) := by
      have := H.out
      rwa [show s = ⟨s.zs, false⟩ from by rw [← hc.1]] at this
    have hlen := hc.2
    clear hc h
    go_enter Try.func15, Try.ntmps15
    go_wp2_with fail
    refine (take_ok _ _ enters_text 2 H'.out hlen (fun w' => w'.cell? ⟨w.heap.size + 1, 0, none⟩ = some (.string (strN s.text)) ∧ IsR w' p s.offText ∧ Only p w w') ?_).mono ?_
    · intro w1 a c ho hr hk hs
      have hs' : w1.heap.size = w.heap.size + 2 := hs.trans HS.out
      refine (text_mid _ _ w.heap.size p (w.heap.size + 1) _ w1 ho (by rw [List.length_take]; omega) hr (by omega) (by omega) (by omega) ((hk.heap (by rw [HS.out]; omega) (by omega)).trans HB.out) ((hk.heap (by rw [HS.out]; omega) (by omega)).trans HQ.out)).mono ?_
      rintro e w2 ⟨rfl, hc2, hr2, hk2⟩
      refine ⟨rfl, by rw [HE.out.1]; exact hc2, by rw [HE.out.2]; exact hr2, ?_⟩
      exact Kept.trans (K := fun i => i < w.heap.size ∧ i ≠ p) (HO.out.trans hk) (Kept.mono hk2 fun k hk => ⟨by omega, hk.2, by omega⟩)
    · rintro e w1 ⟨rfl, hcell, hr, hk⟩
      go_wp2
      go_ret
      exact ⟨rfl, hr, hk⟩
  · have HE : Hid (s.text = [] ∧ s.offText = .failed) := by
      unfold Hid RS.text RS.offText
      rw [show s.off 2 = .failed from if_neg h]
      exact ⟨rfl, rfl⟩
    have HN : Hid (s.fail = true ∨ (2 : Int) < 0 ∨ (s.zs.length : Int) < 2) := RS.cannot h
    clear h
    go_enter Try.func15, Try.ntmps15
    go_wp2_with fail
    refine (take_fails _ 2 H.out HN.out).mono ?_
    rintro e w1 ⟨rfl, hr, hk, hs⟩
    have hcell : w1.cell? ⟨w.heap.size + 1, 0, none⟩ = some (.string ByteArray.empty) := cell_of_one ((hk.heap (by rw [HS.out]; omega) (by omega)).trans HQ.out)
    go_wp2
    go_ret
    rw [HE.out.1, HE.out.2]
    exact ⟨rfl, hr, HO.out.trans hk⟩
end Go.Proofs.Ytclondljjfljpaa
