/- The document's row of bits: 'New', 'Turn' of one bit, 'Count'; 'Same'. -/
import Derived.Test.YtebiccpnehphiaaDoorNew8
import Derived.BigQuiet
namespace Go.Proofs.YtebiccpnehphiaaDoor
open Go.RowKit
set_option linter.unusedVariables false

/-! ### Same -/
theorem take_succ_eq {us vs : List Nat} {k : Nat} (h1 : k < us.length) (h2 : k < vs.length) (h : us.take k = vs.take k) (e : us[k]?.getD 0 = vs[k]?.getD 0) : us.take (k + 1) = vs.take (k + 1) := by
  rw [List.getElem?_eq_getElem h1, List.getElem?_eq_getElem h2] at e
  simp only [Option.getD_some] at e
  rw [List.take_add_one, List.take_add_one, h, List.getElem?_eq_getElem h1, List.getElem?_eq_getElem h2, e]
set_option maxRecDepth 20000 in
set_option maxHeartbeats 1000000 in
theorem same_any (w : World) (x y : Value) (us vs : List Nat) (hx : Wds w x us) (hy : Wds w y vs) (hl : us.length ≤ 100000) (hl2 : vs.length ≤ 100000) :
    Calls Tryd.prog 8 #[x, y] w fun e w' => e = .returned (.bool (decide (us = vs))) ∧ ∃ m, w' = w.drewN m := by
  obtain ⟨a, ca, rfl⟩ := hx.shape
  obtain ⟨b, cb, rfl⟩ := hy.shape
  by_cases hne : us.length = vs.length
  · have HE : Hid (us.length = vs.length) := hne
    rw [← hne] at hy ⊢
    have HX : Hid (Wds w (.slice a us.length ca) us) := hx
    have HY : Hid (Wds w (.slice b us.length cb) vs) := hy
    clear hx hy hne hl2
    obtain ⟨n, hn⟩ : ∃ n, n = us.length := ⟨_, rfl⟩
    rw [← hn] at HX HY hl HE ⊢
    have HN : Hid (n = us.length) := hn
    clear hn
    go_enter Tryd.func8, Tryd.ntmps8
    go_wp2_with fail
    go_loopw [5] (fun i wr => ∃ k : Nat, i = .int .i64 (k : Nat) ∧ k ≤ n ∧ Hid (us.take k = vs.take k) ∧ ∃ m, wr = w.drewN m) (fun i _ => n - (intOf i).toNat)
    case atStart => exact ⟨0, rfl, Nat.zero_le _, rfl, 0, rfl⟩
    case round =>
      obtain ⟨k, rfl, hk, HT, m, rfl⟩ := hrel
      by_cases hlt : k < n
      · obtain ⟨p, off, rfl, hp, hc1⟩ := HX.out.addr (by omega)
        obtain ⟨q, of2, rfl, hq, hc2⟩ := HY.out.addr (by omega)
        have c1 := hc1 k hlt
        have c2 := hc2 k hlt
        have HS : Hid (us[k]?.getD 0 = vs[k]?.getD 0 → us.take (k + 1) = vs.take (k + 1)) := take_succ_eq (by have := HN.out; omega) (by have := HN.out; have := HE.out; omega) HT.out
        have HD : Hid (us[k]?.getD 0 ≠ vs[k]?.getD 0 → us ≠ vs) := fun h e => h (by rw [e])
        clear hc1 hc2 hp hq
        generalize us[k]?.getD 0 = u at *
        generalize vs[k]?.getD 0 = v at *
        by_cases huv : u = v
        · have h3 := HS.out huv
          have HS3 : Hid (us.take (k + 1) = vs.take (k + 1)) := h3
          clear h3 HS
          subst huv
          go_wp2_with fail
          go_quiet (fail)
          go_wp2
          go_roundw
          case rel => exact ⟨k + 1, by go_num, by omega, HS3, _, rfl⟩
          case measure => simp [intOf]; omega
        · have hcmp : (((u : Nat) : Int) != (v : Nat)) = true := by simp; omega
          have HD2 : Hid (us ≠ vs) := HD.out huv
          clear HD HS huv
          go_wp2_with fail
          go_quiet (fail)
          go_wp2
          go_ret
          exact ⟨ret_bool (decide_eq_false HD2.out).symm, _, World.drewN_drewN _ _ _⟩
      · have HA : Hid (us = vs) := by
          have h1 := HT.out
          have h2 := HN.out
          have h3 := HE.out
          rwa [List.take_of_length_le (by omega), List.take_of_length_le (by omega)] at h1
        go_wp2
        go_ret
        exact ⟨ret_bool (decide_eq_true HA.out).symm, _, rfl⟩
  · have HD : Hid (us ≠ vs) := fun e => hne (by rw [e])
    have hcmp : (((us.length : Nat) : Int) != (vs.length : Nat)) = true := by simp; omega
    clear hne hx hy
    generalize us.length = n at *
    generalize vs.length = m at *
    go_enter Tryd.func8, Tryd.ntmps8
    go_wp2
    go_ret
    exact ⟨ret_bool (decide_eq_false HD.out).symm, 0, rfl⟩

/-! ### The document's row -/
def boolL (B : Nat → Bool) (n : Nat) : List Value := (List.range n).map fun i => Value.bool (B i)
theorem boolL_length (B : Nat → Bool) (n : Nat) : (boolL B n).length = n := by simp [boolL]
theorem boolL_at (B : Nat → Bool) (n j : Nat) (h : j < n) : (boolL B n).toArray[j]? = some (Value.bool (B j)) := by simp [boolL, h]
structure RefAt (w : World) (p b n : Nat) (B : Nat → Bool) : Prop where
  head : w.heap[p]? = some (.cells #[.slice (some ⟨b, 0, none⟩) n n] 47 (0, 0))
  body : w.heap[b]? = some (.cells (boolL B n).toArray 4 (0, 0))
theorem RefAt.s_cell {w : World} {p b n : Nat} {B : Nat → Bool} (h : RefAt w p b n B) : w.cell? ⟨p, 0, none⟩ = some (.slice (some ⟨b, 0, none⟩) n n) := by
  rw [cell_of_row w p _ _ _ _ h.head]; rfl
theorem RefAt.b_cell {w : World} {p b n : Nat} {B : Nat → Bool} (h : RefAt w p b n B) (j : Nat) (hj : j < n) : w.cell? ⟨b, j, none⟩ = some (.bool (B j)) := by
  rw [cell_of_row w b _ _ _ _ h.body, boolL_at B _ j hj]
theorem RefAt.b_free {w : World} {p b n : Nat} {B : Nat → Bool} (h : RefAt w p b n B) (j : Nat) : w.frozen? ⟨b, j, none⟩ = false := by
  simp [World.frozen?, h.body]
theorem RefAt.p_lt {w : World} {p b n : Nat} {B : Nat → Bool} (h : RefAt w p b n B) : p < w.heap.size := (Array.getElem?_eq_some_iff.1 h.head).1
theorem RefAt.b_lt {w : World} {p b n : Nat} {B : Nat → Bool} (h : RefAt w p b n B) : b < w.heap.size := (Array.getElem?_eq_some_iff.1 h.body).1
theorem RefAt.ne {w : World} {p b n : Nat} {B : Nat → Bool} (h : RefAt w p b n B) : p ≠ b := by
  intro e
  subst e
  have := h.head.symm.trans h.body
  simp at this
theorem RefAt.same {w w' : World} {p b n : Nat} {B : Nat → Bool} (h : RefAt w p b n B) (h1 : w'.heap[p]? = w.heap[p]?) (h2 : w'.heap[b]? = w.heap[b]?) : RefAt w' p b n B := ⟨h1.trans h.head, h2.trans h.body⟩
theorem RefAt.only {w w' : World} {p b n k : Nat} {B : Nat → Bool} (h : RefAt w p b n B) (ho : Only k w w') (h1 : p ≠ k) (h2 : b ≠ k) : RefAt w' p b n B := h.same (ho.heap h.p_lt h1) (ho.heap h.b_lt h2)
theorem RefAt.drewN {w : World} {p b n : Nat} {B : Nat → Bool} (h : RefAt w p b n B) (m : Nat) : RefAt (w.drewN m) p b n B := ⟨h.head, h.body⟩
theorem RefAt.put {w : World} {p b n a : Nat} {B : Nat → Bool} (h : RefAt w p b n B) (ha : a < n) (c : Bool) : RefAt (w.setCell ⟨b, a, none⟩ (.bool c)) p b n (putB B a 1 c) := by
  refine ⟨(Below.heap_setCell w _ _ p h.ne).trans h.head, ?_⟩
  have := heap_set_row h.body a (.bool c)
  have e : (boolL B n).toArray.setIfInBounds a (Value.bool c) = (boolL (putB B a 1 c) n).toArray := by
    apply Array.ext_getElem?
    intro i
    rw [Array.getElem?_setIfInBounds]
    by_cases hi : a = i
    · subst hi
      rw [if_pos rfl, if_pos (by simp [boolL_length, ha]), boolL_at _ _ _ ha]
      unfold putB
      rw [if_pos (by omega)]
    · rw [if_neg hi]
      by_cases hl : i < n
      · rw [boolL_at _ _ _ hl, boolL_at _ _ _ hl]
        unfold putB
        rw [if_neg (by omega)]
      · rw [Array.getElem?_eq_none (by simp [boolL_length]; omega), Array.getElem?_eq_none (by simp [boolL_length]; omega)]
  rwa [e] at this

theorem Tryd.infoBool : (Tryd.prog.info? 4).map (fun i => (i.zero, i.size, i.bytes)) = some (some (.bool false), 1, 1) := by kernel_rfl
theorem made_false (n : Nat) : madeCells #[Value.bool false] n = (boolL noneB n).toArray := by
  apply Array.ext'
  simp only [madeCells, boolL]
  apply List.ext_getElem?
  intro i
  by_cases h : i < n
  · simp [h, Nat.mod_one, noneB]
  · simp [h]
theorem refNew_any (w : World) (n : Nat) (hn : n ≤ 65536) :
    Calls Tryd.prog 17 #[.int .i64 (n : Nat)] w fun x w' => ∃ p b, x = .returned (.pointer (some ⟨p, 0, none⟩)) ∧ w.heap.size ≤ p ∧ w.heap.size ≤ b ∧ RefAt w' p b n noneB ∧ Below w.heap.size w w' := by
  obtain ⟨i0, hi, hz0, hz1, hz2⟩ := info_parts Tryd.infoBool
  have HM : Hid (∀ W : World, RefAt ((W.alloc (.cells (boolL noneB n).toArray 4)).alloc (.cells #[.slice (some ⟨W.heap.size, 0, none⟩) n n] 47)) (W.heap.size + 1) W.heap.size n noneB) := fun W => by
    refine ⟨?_, ?_⟩
    · have := heap_alloc_new (W.alloc (.cells (boolL noneB n).toArray 4)) (.cells #[.slice (some ⟨W.heap.size, 0, none⟩) n n] 47)
      simpa using this
    · have h1 := heap_alloc_new W (.cells (boolL noneB n).toArray 4)
      have h2 := ((Below.refl (W.heap.size + 1) (W.alloc (.cells (boolL noneB n).toArray 4))).alloc (by simp) (.cells #[.slice (some ⟨W.heap.size, 0, none⟩) n n] 47)).block W.heap.size (by omega)
      exact h2.trans h1
  go_enter Tryd.func17, Tryd.ntmps17
  go_wp2_with (at_make; refine wpList_make_exact _ rfl _ _ 45 rfl 4 i0 _ Tryd.underlying45 hi hz0 hz1 .i64 .i64 n rfl rfl ?c1 ?c2 ?_)
  case c1 => rw [hz2]; omega
  case c2 => unfold maxLen; omega
  go_wp2
  go_ret
  rw [made_false]
  exact ⟨_, _, rfl, by omega, Nat.le_refl _, HM.out _, ((Below.refl _ _).alloc (Nat.le_refl _) _).alloc (by simp) _⟩
theorem refThere_one (w : World) (p b n : Nat) (B : Nat → Bool) (a : Nat) (h : RefAt w p b n B) (ha : a < n) (hn : n ≤ 65536) :
    Calls Tryd.prog 25 #[.pointer (some ⟨p, 0, none⟩), .int .i64 (a : Nat), .int .i64 1] w fun x w' => x = .returned (.bool true) ∧ w' = w := by
  have hs := h.s_cell
  clear h
  go_enter Tryd.func25, Tryd.ntmps25
  go_wp2
  go_ret
  exact ⟨ret_bool (decide_eq_true (by omega)), rfl⟩
set_option maxRecDepth 20000 in
theorem refTurn_one (w : World) (p b n : Nat) (B : Nat → Bool) (a : Nat) (h : RefAt w p b n B) (ha : a < n) (hn : n ≤ 65536) :
    Calls Tryd.prog 18 #[.pointer (some ⟨p, 0, none⟩), .int .i64 (a : Nat), .int .i64 1, .bool true] w fun x w' => x = .returned (.int .i64 (if B a then 2 else 0)) ∧ RefAt w' p b n (if B a then B else putB B a 1 true) ∧ Only b w w' := by
  have H : Hid (RefAt w p b n B) := h
  have HT : Hid (Calls Tryd.prog 25 #[.pointer (some ⟨p, 0, none⟩), .int .i64 (a : Nat), .int .i64 1] w fun x w' => x = .returned (.bool true) ∧ w' = w) := refThere_one w p b n B a h ha hn
  have hs := h.s_cell
  have hc := h.b_cell a ha
  have hf := h.b_free a
  have HP : Hid (RefAt (w.setCell ⟨b, a, none⟩ (.bool true)) p b n (putB B a 1 true)) := h.put ha true
  clear h
  cases hB : B a
  · rw [hB] at hc
    simp only [Bool.false_eq_true, if_false]
    go_enter Tryd.func18, Tryd.ntmps18
    go_wp2_with fail
    refine HT.out.mono ?_
    rintro e w' ⟨rfl, rfl⟩
    go_wp2
    refine wp_loop_rounds 2 ?_
    rw [rounds_succ]
    go_wp2
    rw [rounds_succ]
    go_wp2
    refine wp_loop_rounds 2 ?_
    rw [rounds_succ]
    go_wp2
    rw [rounds_succ]
    go_wp2
    go_ret
    exact ⟨rfl, HP.out, (Only.refl _ _).setCell a _⟩
  · rw [hB] at hc
    simp only [if_true]
    go_enter Tryd.func18, Tryd.ntmps18
    go_wp2_with fail
    refine HT.out.mono ?_
    rintro e w' ⟨rfl, rfl⟩
    go_wp2
    refine wp_loop_rounds 1 ?_
    rw [rounds_succ]
    go_wp2
    go_ret
    exact ⟨rfl, H.out, Only.refl _ _⟩
set_option maxRecDepth 20000 in
theorem refCount_any (w : World) (p b n : Nat) (B : Nat → Bool) (h : RefAt w p b n B) (hn : n ≤ 65536) :
    Calls Tryd.prog 19 #[.pointer (some ⟨p, 0, none⟩)] w fun x w' => x = .returned (.int .i64 (cnt B 0 n : Nat)) ∧ w' = w := by
  have hs := h.s_cell
  have HC : Hid (∀ j, j < n → w.cell? ⟨b, j, none⟩ = some (.bool (B j))) := fun j hj => h.b_cell j hj
  clear h
  go_enter Tryd.func19, Tryd.ntmps19
  go_wp2
  go_loop [3, 4] (fun c i => ∃ k : Nat, k ≤ n ∧ i = .int .i64 (k : Nat) ∧ c = .int .i64 (cnt B 0 k : Nat)) (fun _ i => n - (intOf i).toNat)
  case atStart => exact ⟨0, Nat.zero_le _, rfl, rfl⟩
  case round =>
    obtain ⟨k, hk, rfl, rfl⟩ := hrel
    have hle := cnt_le B 0 k
    by_cases hlt : k < n
    · have hc := HC.out k hlt
      have HA : Hid (cnt B 0 (k + 1) = cnt B 0 k + (B k).toNat) := by unfold Hid; rw [cnt, Nat.zero_add]
      generalize cnt B 0 k = c at *
      cases hB : B k
      · rw [hB] at hc HA
        go_wp2
        go_round
        case rel => exact ⟨k + 1, by omega, by go_num, by rw [HA.out]; rfl⟩
        case measure => simp [intOf]; omega
      · rw [hB] at hc HA
        go_wp2
        go_round
        case rel => exact ⟨k + 1, by omega, by go_num, by rw [HA.out]; go_num⟩
        case measure => simp [intOf]; omega
    · obtain rfl : k = n := by omega
      go_wp2
      go_ret
      exact ⟨rfl, rfl⟩
end Go.Proofs.YtebiccpnehphiaaDoor
