/- The document's board; 'Ints', 'Free'. -/
import Derived.Test.YthpodknhidgedaaDoorNew9
import Derived.Test.YthpodknhidgedaaDoorRef8
namespace Go.Proofs.YthpodknhidgedaaDoor
open Go.RowKit
set_option linter.unusedVariables false

structure RefB (w : World) (p b n : Nat) (B : Nat → Bool) : Prop where
  head : w.heap[p]? = some (.cells #[.slice (some ⟨b, 0, none⟩) n n] 47 (0, 0))
  body : w.heap[b]? = some (.cells (boolL B n).toArray 4 (0, 0))
theorem RefB.s_cell {w : World} {p b n : Nat} {B : Nat → Bool} (h : RefB w p b n B) : w.cell? ⟨p, 0, none⟩ = some (.slice (some ⟨b, 0, none⟩) n n) := by
  rw [cell_of_row w p _ _ _ _ h.head]; rfl
theorem RefB.b_cell {w : World} {p b n : Nat} {B : Nat → Bool} (h : RefB w p b n B) (j : Nat) (hj : j < n) : w.cell? ⟨b, j, none⟩ = some (.bool (B j)) := by
  rw [cell_of_row w b _ _ _ _ h.body, boolL_at B _ j hj]
theorem RefB.b_free {w : World} {p b n : Nat} {B : Nat → Bool} (h : RefB w p b n B) (j : Nat) : w.frozen? ⟨b, j, none⟩ = false := by
  simp [World.frozen?, h.body]
theorem RefB.p_lt {w : World} {p b n : Nat} {B : Nat → Bool} (h : RefB w p b n B) : p < w.heap.size := lt_of_heap h.head
theorem RefB.b_lt {w : World} {p b n : Nat} {B : Nat → Bool} (h : RefB w p b n B) : b < w.heap.size := lt_of_heap h.body
theorem RefB.ne {w : World} {p b n : Nat} {B : Nat → Bool} (h : RefB w p b n B) : p ≠ b := ne_type h.head h.body (by decide)
theorem RefB.same {w w' : World} {p b n : Nat} {B : Nat → Bool} (h : RefB w p b n B) (h1 : w'.heap[p]? = w.heap[p]?) (h2 : w'.heap[b]? = w.heap[b]?) : RefB w' p b n B := ⟨h1.trans h.head, h2.trans h.body⟩
theorem RefB.below {w w' : World} {p b n : Nat} {B : Nat → Bool} (h : RefB w p b n B) (hb : Below w.heap.size w w') : RefB w' p b n B := h.same (hb.block _ h.p_lt) (hb.block _ h.b_lt)
theorem RefB.drewN {w : World} {p b n : Nat} {B : Nat → Bool} (h : RefB w p b n B) (m : Nat) : RefB (w.drewN m) p b n B := ⟨h.head, h.body⟩
theorem RefB.drew {w : World} {p b n : Nat} {B : Nat → Bool} (h : RefB w p b n B) : RefB w.drew p b n B := ⟨h.head, h.body⟩
theorem RefB.put {w : World} {p b n a : Nat} {B : Nat → Bool} (h : RefB w p b n B) (ha : a < n) (c : Bool) : RefB (w.setCell ⟨b, a, none⟩ (.bool c)) p b n (putB B a 1 c) := by
  refine ⟨(Below.heap_setCell w _ _ p h.ne).trans h.head, ?_⟩
  have := heap_set_row h.body a (.bool c)
  have e : (boolL B n).toArray.setIfInBounds a (Value.bool c) = (boolL (putB B a 1 c) n).toArray := by
    apply Array.ext_getElem?
    intro i
    rw [Array.getElem?_setIfInBounds]
    by_cases hi : a = i
    · subst hi
      rw [if_pos rfl, if_pos (by simp [boolL_length, ha]), boolL_at _ _ _ ha, putB_at]
    · rw [if_neg hi]
      by_cases hl : i < n
      · rw [boolL_at _ _ _ hl, boolL_at _ _ _ hl, putB_off c (fun e => hi e.symm)]
      · rw [Array.getElem?_eq_none (by simp [boolL_length]; omega), Array.getElem?_eq_none (by simp [boolL_length]; omega)]
  rwa [e] at this
/-- A board's two blocks turned. -/
theorem RefB.only2 {w w' : World} {p b n q pp bb f cap m : Nat} {B C : Nat → Bool} (h : RefB w p b n B) (hb : BoardAt w q pp bb f cap m C) (ho : Only2 bb f w w') : RefB w' p b n B := by
  obtain ⟨cur, h2, h3⟩ := hb.nums
  exact h.same (ho.heap h.p_lt (ne_type h.head hb.row.body (by decide)) (ne_type h.head h2 (by decide))) (ho.heap h.b_lt (ne_type h.body hb.row.body (by decide)) (ne_type h.body h2 (by decide)))
theorem BoardAt.only_ref {w w' : World} {q p b f cap n rp rb m : Nat} {B C : Nat → Bool} (h : BoardAt w q p b f cap n B) (hr : RefB w rp rb m C) (ho : Only rb w w') : BoardAt w' q p b f cap n B :=
  h.only ho hr.body (by decide) (by decide) (by decide) (by decide)

/-! ### Ints -/
theorem take_succ_int {us vs : List Int} {k : Nat} (h1 : k < us.length) (h2 : k < vs.length) (h : us.take k = vs.take k) (e : us[k]?.getD 0 = vs[k]?.getD 0) : us.take (k + 1) = vs.take (k + 1) := by
  rw [take_one h1, take_one h2, h, e]
set_option maxRecDepth 20000 in
set_option maxHeartbeats 1000000 in
theorem ints_any (w : World) (x y : Value) (us vs : List Int) (hx : Nums w x us) (hy : Nums w y vs) :
    Calls Tryd.prog 17 #[x, y] w fun e w' => e = .returned (.bool (decide (us = vs))) ∧ ∃ m, w' = w.drewN m := by
  obtain ⟨a, ca, rfl⟩ := hx.shape
  obtain ⟨b, cb, rfl⟩ := hy.shape
  have hl : us.length ≤ 9223372036854775807 := by have := hx.2.1; unfold maxLen at this; omega
  have hl2 : vs.length ≤ 9223372036854775807 := by have := hy.2.1; unfold maxLen at this; omega
  by_cases hne : us.length = vs.length
  · have HE : Hid (us.length = vs.length) := hne
    rw [← hne] at hy ⊢
    have HX : Hid (Nums w (.slice a us.length ca) us) := hx
    have HY : Hid (Nums w (.slice b us.length cb) vs) := hy
    clear hx hy hne hl2
    obtain ⟨n, hn⟩ : ∃ n, n = us.length := ⟨_, rfl⟩
    rw [← hn] at HX HY hl HE ⊢
    have HN : Hid (n = us.length) := hn
    clear hn
    go_enter Tryd.func17, Tryd.ntmps17
    go_wp2_with fail
    go_loopw [5] (fun i wr => ∃ k : Nat, i = .int .i64 (k : Nat) ∧ k ≤ n ∧ Hid (us.take k = vs.take k) ∧ ∃ m, wr = w.drewN m) (fun i _ => n - (intOf i).toNat)
    case atStart => exact ⟨0, rfl, Nat.zero_le _, rfl, 0, rfl⟩
    case round =>
      obtain ⟨k, rfl, hk, HT, m, rfl⟩ := hrel
      by_cases hlt : k < n
      · obtain ⟨p, off, rfl, hp, hc1⟩ := HX.out.addr (by omega)
        obtain ⟨q, of2, rfl, hq, hc2⟩ := HY.out.addr (by omega)
        have c1 := hc1 k hlt
        have c2 := hc2 k hlt
        have HS : Hid (us[k]?.getD 0 = vs[k]?.getD 0 → us.take (k + 1) = vs.take (k + 1)) := take_succ_int (by have := HN.out; omega) (by have := HN.out; have := HE.out; omega) HT.out
        have HD : Hid (us[k]?.getD 0 ≠ vs[k]?.getD 0 → us ≠ vs) := fun h e => h (by rw [e])
        clear hc1 hc2 hp hq
        generalize us[k]?.getD 0 = u at *
        generalize vs[k]?.getD 0 = v at *
        by_cases huv : u = v
        · have h3 := HS.out huv
          have HS3 : Hid (us.take (k + 1) = vs.take (k + 1)) := h3
          clear h3 HS
          subst huv
          go_wp2_with fail
          go_quiet (fail)
          go_wp2
          go_roundw
          case rel => exact ⟨k + 1, by go_num, by omega, HS3, _, rfl⟩
          case measure => simp [intOf]; omega
        · have hcmp : (u != v) = true := by simp [huv]
          have HD2 : Hid (us ≠ vs) := HD.out huv
          clear HD HS huv
          go_wp2_with fail
          go_quiet (fail)
          go_wp2
          go_ret
          exact ⟨ret_bool (decide_eq_false HD2.out).symm, _, World.drewN_drewN _ _ _⟩
      · have HA : Hid (us = vs) := by
          have h1 := HT.out
          have h2 := HN.out
          have h3 := HE.out
          rwa [List.take_of_length_le (by omega), List.take_of_length_le (by omega)] at h1
        go_wp2
        go_ret
        exact ⟨ret_bool (decide_eq_true HA.out).symm, _, rfl⟩
  · have HD : Hid (us ≠ vs) := fun e => hne (by rw [e])
    have hcmp : (((us.length : Nat) : Int) != (vs.length : Nat)) = true := by simp; omega
    clear hne hx hy
    generalize us.length = n at *
    generalize vs.length = m at *
    go_enter Tryd.func17, Tryd.ntmps17
    go_wp2
    go_ret
    exact ⟨ret_bool (decide_eq_false HD.out).symm, 0, rfl⟩

/-! ### Free -/
set_option maxRecDepth 20000 in
theorem refFree_any (w : World) (p b n : Nat) (B : Nat → Bool) (h : RefB w p b n B) (hn : n ≤ 65536) :
    Calls Tryd.prog 19 #[.pointer (some ⟨p, 0, none⟩)] w fun x w' => x = .returned (.int .i64 (n - cnt B 0 n : Nat)) ∧ w' = w := by
  have hs := h.s_cell
  have HC : Hid (∀ j, j < n → w.cell? ⟨b, j, none⟩ = some (.bool (B j))) := fun j hj => h.b_cell j hj
  clear h
  go_enter Tryd.func19, Tryd.ntmps19
  go_wp2
  go_loop [3, 4] (fun c i => ∃ k x : Nat, k ≤ n ∧ i = .int .i64 (k : Nat) ∧ c = .int .i64 (x : Nat) ∧ x ≤ k ∧ Hid (x = k - cnt B 0 k)) (fun _ i => n - (intOf i).toNat)
  case atStart => exact ⟨0, 0, Nat.zero_le _, rfl, rfl, Nat.le_refl _, rfl⟩
  case round =>
    obtain ⟨k, x, hk, rfl, rfl, hxk, HX⟩ := hrel
    by_cases hlt : k < n
    · have hc := HC.out k hlt
      have HA : Hid (cnt B 0 (k + 1) = cnt B 0 k + (B k).toNat) := by unfold Hid; rw [cnt, Nat.zero_add]
      have HL : Hid (cnt B 0 k ≤ k) := cnt_le B 0 k
      cases hB : B k
      · rw [hB] at hc HA
        go_wp2
        go_round
        case rel => exact ⟨k + 1, x + 1, by omega, by go_num, by go_num, by omega, by unfold Hid; have h1 := HA.out; have h2 := HX.out; have h3 := HL.out; simp at h1; omega⟩
        case measure => simp [intOf]; omega
      · rw [hB] at hc HA
        go_wp2
        go_round
        case rel => exact ⟨k + 1, x, by omega, by go_num, rfl, by omega, by unfold Hid; have h1 := HA.out; have h2 := HX.out; have h3 := HL.out; simp at h1; omega⟩
        case measure => simp [intOf]; omega
    · obtain rfl : k = n := by omega
      go_wp2
      go_ret
      exact ⟨ret_int (by have := HX.out; omega), rfl⟩

end Go.Proofs.YthpodknhidgedaaDoor
