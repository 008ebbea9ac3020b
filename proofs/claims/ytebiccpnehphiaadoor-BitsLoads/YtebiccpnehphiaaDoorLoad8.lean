/- 'Load' and what it asks of the words. -/
import Derived.Test.YtebiccpnehphiaaDoorNew8
namespace Go.Proofs.YtebiccpnehphiaaDoor
open Go.RowKit
set_option linter.unusedVariables false

/-- The bits of words. -/
def bitsOf (us : List Nat) : Nat → Bool := fun i => (us[i / 64]?.getD 0).testBit (i % 64)
/-- Has the last one a bit behind the n-th? -/
def over (n : Nat) (us : List Nat) : Bool := decide (0 < n % 64) && decide (us[wn n - 1]?.getD 0 / 2 ^ (n % 64) ≠ 0)
theorem wordN_bitsOf {us : List Nat} (hz : ∀ z ∈ us, z < 18446744073709551616) : wordN (bitsOf us) us.length = us := by
  apply List.ext_getElem?
  intro j
  by_cases hj : j < us.length
  · have hs := hz _ (List.getElem_mem hj)
    simp only [wordN, List.getElem?_map, List.getElem?_range hj, Option.map_some, List.getElem?_eq_getElem hj, Option.some.injEq]
    apply Nat.eq_of_testBit_eq
    intro i
    rw [num_bit]
    by_cases hi : i < 64
    · have e1 : (64 * j + i) / 64 = j := by omega
      have e2 : (64 * j + i) % 64 = i := by omega
      simp [hi, bitsOf, e1, e2, List.getElem?_eq_getElem hj]
    · rw [decide_eq_false hi, Nat.testBit_lt_two_pow (Nat.lt_of_lt_of_le (show us[j] < 2 ^ 64 from hs) (Nat.pow_le_pow_right (by decide) (by omega)))]
      simp
  · rw [List.getElem?_eq_none (by rw [wordN_length]; omega), List.getElem?_eq_none (by omega)]
theorem bitsOf_tail {us : List Nat} {n : Nat} (hl : us.length = wn n) (ho : over n us = false) (i : Nat) (hi : n ≤ i) : bitsOf us i = false := by
  unfold bitsOf
  by_cases hj : i / 64 < us.length
  · have e1 : i / 64 = wn n - 1 := by unfold wn at *; omega
    have e2 : 0 < n % 64 := by unfold wn at *; omega
    have e3 : n % 64 ≤ i % 64 := by unfold wn at *; omega
    unfold over at ho
    rw [decide_eq_true e2, Bool.true_and, decide_eq_false_iff_not, Decidable.not_not] at ho
    have h : (us[wn n - 1]?.getD 0 / 2 ^ (n % 64)).testBit (i % 64 - n % 64) = false := by rw [ho]; simp
    rw [Nat.testBit_div_two_pow, show i % 64 - n % 64 + n % 64 = i % 64 by omega] at h
    rw [e1, h]
  · rw [List.getElem?_eq_none (by omega)]; simp
theorem RowAt.ofWords {w : World} {p b n : Nat} {us : List Nat} (hp : w.heap[p]? = some (.cells #[.int .i64 (n : Nat), .slice (some ⟨b, 0, none⟩) (wn n) (wn n)] 50 (0, 0))) (hb : w.heap[b]? = some (.cells (wds us).toArray 28 (0, 0)))
    (hn : n ≤ 65536) (hz : ∀ z ∈ us, z < 18446744073709551616) (hl : us.length = wn n) (ho : over n us = false) : RowAt w p b n (bitsOf us) :=
  ⟨hp, by rw [wordL_wds, ← hl, wordN_bitsOf hz]; exact hb, hn, bitsOf_tail hl ho⟩

set_option maxRecDepth 20000 in
theorem beyond_any (w : World) (n : Nat) (v : Value) (us : List Nat) (h : Wds w v us) (hn : n ≤ 65536) (hl : us.length = wn n) :
    Calls Tryd.prog 20 #[.int .i64 (n : Nat), v] w fun x w' => x = .returned (.bool (over n us)) ∧ w' = w := by
  obtain ⟨a, cap, rfl⟩ := h.shape
  rw [hl] at h ⊢
  have hr : ((n : Nat) : Int).tmod 64 = ((n % 64 : Nat) : Int) := Int.ofNat_tmod n 64
  have hw := wn_le n hn
  by_cases h0 : 0 < n % 64
  · have hpos : 0 < wn n := by unfold wn; omega
    obtain ⟨b, off, rfl, hlt, hc⟩ := h.addr hpos
    have hcell := hc (wn n - 1) (by omega)
    have hu := wd_small us h.1 (wn n - 1)
    have HO : Hid (over n us = decide (us[wn n - 1]?.getD 0 / 2 ^ (n % 64) ≠ 0)) := by unfold Hid over; rw [decide_eq_true h0, Bool.true_and]
    have hd : ((us[wn n - 1]?.getD 0 : Nat) : Int) / 2 ^ (n % 64) = ((us[wn n - 1]?.getD 0 / 2 ^ (n % 64) : Nat) : Int) := by simp
    have hs : ((wn n : Nat) : Int) - 1 = ((wn n - 1 : Nat) : Int) := by omega
    have hg : n % 64 < 64 := Nat.mod_lt _ (by decide)
    have hlt2 : wn n - 1 < wn n := by omega
    have hle : wn n - 1 ≤ 1024 := by omega
    clear hc h hl hpos
    generalize us[wn n - 1]?.getD 0 / 2 ^ (n % 64) = y at *
    generalize us[wn n - 1]?.getD 0 = u at *
    generalize wn n - 1 = l at *
    generalize wn n = m at *
    generalize n % 64 = g at *
    by_cases hy : y = 0
    · subst hy
      go_enter Tryd.func20, Tryd.ntmps20
      go_wp2
      go_ret
      exact ⟨by rw [HO.out]; rfl, rfl⟩
    · have hy2 : (((y : Nat) : Int) != 0) = true := by simp; omega
      go_enter Tryd.func20, Tryd.ntmps20
      go_wp2
      go_ret
      exact ⟨by rw [HO.out, decide_eq_true hy]; rfl, rfl⟩
  · have e : n % 64 = 0 := by omega
    have HO : Hid (over n us = false) := by unfold Hid over; rw [decide_eq_false h0, Bool.false_and]
    rw [e] at hr
    clear h h0 e hl
    generalize wn n = m at *
    go_enter Tryd.func20, Tryd.ntmps20
    go_wp2
    go_ret
    exact ⟨by rw [HO.out]; rfl, rfl⟩

theorem load_no1 (w : World) (n : Int) (v : Value) (h1 : -9223372036854775808 ≤ n) (h2 : n ≤ 9223372036854775807) (hn : n < 0 ∨ 65536 < n) :
    Calls Tryd.prog 7 #[.int .i64 n, v] w fun x w' => x = .returned (.tuple #[.pointer none, .int .i64 2]) ∧ w' = w := by
  have HC : Hid (Calls Tryd.prog 12 #[.int .i64 n] w fun x w' => x = .returned (.tuple #[.pointer none, .int .i64 2]) ∧ w' = w) := new_no w n h1 h2 hn
  clear h1 h2 hn
  go_enter Tryd.func7, Tryd.ntmps7
  go_wp2_with fail
  refine HC.out.mono ?_
  rintro e w' ⟨rfl, rfl⟩
  go_wp2
  go_ret2
  exact ⟨rfl, rfl⟩
set_option maxRecDepth 20000 in
theorem load_no2 (w : World) (n : Nat) (v : Value) (us : List Nat) (h : Wds w v us) (hn : n ≤ 65536) (h0 : 0 < w.heap.size) (hu : us.length ≤ 100000) (hbad : us.length ≠ wn n ∨ (us.length = wn n ∧ over n us = true)) :
    Calls Tryd.prog 7 #[.int .i64 (n : Nat), v] w fun x w' => x = .returned (.tuple #[.pointer none, .int .i64 2]) ∧ Below w.heap.size w w' := by
  obtain ⟨a, cap, rfl⟩ := h.shape
  have HW : Hid (Wds w (.slice a us.length cap) us) := h
  have HC : Hid (Calls Tryd.prog 12 #[.int .i64 (n : Nat)] w fun x w' => ∃ p b, x = .returned (.tuple #[.pointer (some ⟨p, 0, none⟩), .int .i64 0]) ∧ w.heap.size ≤ p ∧ w.heap.size ≤ b ∧ RowAt w' p b n noneB ∧ Below w.heap.size w w') := new_ok w n hn h0
  have hm := wn_le n hn
  clear h
  go_enter Tryd.func7, Tryd.ntmps7
  go_wp2_with fail
  refine HC.out.mono ?_
  rintro e w1 ⟨p, b, rfl, hp, hb, hR, hB⟩
  have HB : Hid (Below w.heap.size w w1) := hB
  have hs := hR.s_cell
  clear hR hB hp hb
  rcases hbad with hbad | ⟨hl, hov⟩
  · have hne : (((us.length : Nat) : Int) != (wn n : Nat)) = true := by simp; omega
    clear hbad
    generalize us.length = l at *
    generalize wn n = m at *
    go_wp2
    go_ret2
    exact ⟨rfl, HB.out⟩
  · have HV : Hid (Calls Tryd.prog 20 #[.int .i64 (n : Nat), .slice a (wn n) cap] w1 fun x w' => x = .returned (.bool true) ∧ w' = w1) := by
      have := beyond_any w1 n (.slice a us.length cap) us (HW.out.kept HB.out) hn hl
      rw [hov, hl] at this
      exact this
    rw [hl]
    clear hov hl HW
    generalize wn n = m at *
    go_wp2_with fail
    refine HV.out.mono ?_
    rintro e w2 ⟨rfl, rfl⟩
    go_wp2
    go_ret2
    exact ⟨rfl, HB.out⟩
set_option maxRecDepth 20000 in
theorem load_ok (w : World) (n : Nat) (v : Value) (us : List Nat) (h : Wds w v us) (hn : n ≤ 65536) (h0 : 0 < w.heap.size) (hl : us.length = wn n) (hov : over n us = false) :
    Calls Tryd.prog 7 #[.int .i64 (n : Nat), v] w fun x w' => ∃ p b, x = .returned (.tuple #[.pointer (some ⟨p, 0, none⟩), .int .i64 0]) ∧ w.heap.size ≤ p ∧ w.heap.size ≤ b ∧ RowAt w' p b n (bitsOf us) ∧ Below w.heap.size w w' := by
  obtain ⟨i0, hi, hz0, hz1, hz2⟩ := info_parts Tryd.infoU64
  have HW : Hid (Wds w v us) := h
  have HL : Hid (us.length = wn n) := hl
  have HO : Hid (over n us = false) := hov
  have HC : Hid (Calls Tryd.prog 12 #[.int .i64 (n : Nat)] w fun x w' => ∃ p b, x = .returned (.tuple #[.pointer (some ⟨p, 0, none⟩), .int .i64 0]) ∧ w.heap.size ≤ p ∧ w.heap.size ≤ b ∧ RowAt w' p b n noneB ∧ Below w.heap.size w w') := new_ok w n hn h0
  have hm := wn_le n hn
  obtain ⟨a, cap, rfl⟩ := h.shape
  rw [hl] at HW ⊢
  clear h hl hov
  go_enter Tryd.func7, Tryd.ntmps7
  go_wp2_with fail
  refine HC.out.mono ?_
  rintro e w1 ⟨p, b, rfl, hp, hb, hR, hB⟩
  have HB : Hid (Below w.heap.size w w1) := hB
  have HR : Hid (RowAt w1 p b n noneB) := hR
  have hs := hR.s_cell
  have HW1 : Hid (Wds w1 (.slice a (wn n) cap) us) := HW.out.kept HB.out
  have HV : Hid (Calls Tryd.prog 20 #[.int .i64 (n : Nat), .slice a (wn n) cap] w1 fun x w' => x = .returned (.bool false) ∧ w' = w1) := by
    have := beyond_any w1 n (.slice a (wn n) cap) us HW1.out hn HL.out
    rw [HO.out] at this
    exact this
  have HG : Hid (w1.heap[b]? = some (.cells (wordL noneB (wn n)).toArray 28 (0, 0))) := hR.body
  have HWL : Hid ((wordL noneB (wn n)).length = wn n) := wordL_length _ _
  have HF : Hid (∀ w2, w2.heap[b]? = some (.cells (wds us).toArray 28 (0, 0)) → Only b w1 w2 → RowAt w2 p b n (bitsOf us)) := fun w2 h1 h2 =>
    RowAt.ofWords ((h2.heap HR.out.p_lt HR.out.ne).trans HR.out.head) h1 hn HW1.out.1 HL.out HO.out
  have HS1 : Hid (w.heap.size ≤ w1.heap.size) := HB.out.size
  clear hR hB
  generalize wn n = m at *
  go_wp2_with fail
  refine HV.out.mono ?_
  rintro e w2 ⟨rfl, rfl⟩
  go_wp2_with ((with_reducible show wpList _ _ _ (Oper.mk _ (Op.call ⟨Callee.builtin Builtin.copy, _, _⟩) _ _ _ _ :: _) _ _); go_must (refine wpList_copy_wds rfl _ _ 22 22 rfl 28 Tryd.underlying22 Tryd.sizeU64 b m m rfl _ us rfl HW1.out HL.out _ _ HG.out HWL.out ?_))
  intro w3 hg3 ho3
  have HR3 : Hid (RowAt w3 p b n (bitsOf us)) := HF.out w3 hg3.out ho3.out
  have HB3 : Hid (Below w.heap.size w w3) := HB.out.trans ((ho3.out : Only _ _ _).below hb HS1.out)
  clear hg3 ho3
  go_wp2
  go_ret2
  exact ⟨p, b, rfl, hp, hb, HR3.out, HB3.out⟩
end Go.Proofs.YtebiccpnehphiaaDoor
