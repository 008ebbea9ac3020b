/- How a row of bits lies in memory; where a bit is that is looked for ('seek'). -/
import Derived.Test.YthpodknhidgedaaDoorWord8
namespace Go.Proofs.YthpodknhidgedaaDoor
open Go.RowKit
set_option linter.unusedVariables false

/-- How many words n bits need. -/
def wn (n : Nat) : Nat := (n + 63) / 64
theorem wn_le (n : Nat) (h : n ≤ 65536) : wn n ≤ 1024 := by unfold wn; omega
theorem wn_lt {n i : Nat} (h : i < n) : i / 64 < wn n := by unfold wn; omega
/-- The words of B. -/
def wordL (B : Nat → Bool) (m : Nat) : List Value := (List.range m).map fun j => Value.int .u64 (num B (64 * j) 64 : Nat)
theorem wordL_length (B : Nat → Bool) (m : Nat) : (wordL B m).length = m := by simp [wordL]
theorem wordL_at (B : Nat → Bool) (m j : Nat) (h : j < m) : (wordL B m).toArray[j]? = some (Value.int .u64 (num B (64 * j) 64 : Nat)) := by simp [wordL, h]
theorem wordL_one (B : Nat → Bool) (m : Nat) : ∀ v ∈ wordL B m, v.oneCell' = true := by
  intro u hu
  simp only [wordL, List.mem_map] at hu
  obtain ⟨z, _, rfl⟩ := hu
  rfl
theorem wordL_congr {B C : Nat → Bool} {m : Nat} (h : ∀ i, i < 64 * m → B i = C i) : wordL B m = wordL C m := by
  unfold wordL
  apply List.map_congr_left
  intro j hj
  rw [List.mem_range] at hj
  rw [num_congr fun i hi => h _ (by omega)]

/-- A row of n bits, B, at p; its words at b. -/
structure RowAt (w : World) (p b n : Nat) (B : Nat → Bool) : Prop where
  head : w.heap[p]? = some (.cells #[.int .i64 (n : Nat), .slice (some ⟨b, 0, none⟩) (wn n) (wn n)] 67 (0, 0))
  body : w.heap[b]? = some (.cells (wordL B (wn n)).toArray 68 (0, 0))
  small : n ≤ 65536
  tail : ∀ i, n ≤ i → B i = false
theorem RowAt.n_cell {w : World} {p b n : Nat} {B : Nat → Bool} (h : RowAt w p b n B) : w.cell? ⟨p, 0, none⟩ = some (.int .i64 (n : Nat)) := by
  rw [cell_of_row w p _ _ _ _ h.head]; rfl
theorem RowAt.s_cell {w : World} {p b n : Nat} {B : Nat → Bool} (h : RowAt w p b n B) : w.cell? ⟨p, 1, none⟩ = some (.slice (some ⟨b, 0, none⟩) (wn n) (wn n)) := by
  rw [cell_of_row w p _ _ _ _ h.head]; rfl
theorem RowAt.w_cell {w : World} {p b n : Nat} {B : Nat → Bool} (h : RowAt w p b n B) (j : Nat) (hj : j < wn n) : w.cell? ⟨b, j, none⟩ = some (.int .u64 (num B (64 * j) 64 : Nat)) := by
  rw [cell_of_row w b _ _ _ _ h.body, wordL_at B _ j hj]
theorem RowAt.w_free {w : World} {p b n : Nat} {B : Nat → Bool} (h : RowAt w p b n B) (j : Nat) : w.frozen? ⟨b, j, none⟩ = false := by
  simp [World.frozen?, h.body]
theorem RowAt.p_lt {w : World} {p b n : Nat} {B : Nat → Bool} (h : RowAt w p b n B) : p < w.heap.size := (Array.getElem?_eq_some_iff.1 h.head).1
theorem RowAt.b_lt {w : World} {p b n : Nat} {B : Nat → Bool} (h : RowAt w p b n B) : b < w.heap.size := (Array.getElem?_eq_some_iff.1 h.body).1
theorem RowAt.ne {w : World} {p b n : Nat} {B : Nat → Bool} (h : RowAt w p b n B) : p ≠ b := by
  intro e
  subst e
  have := h.head.symm.trans h.body
  simp at this
theorem RowAt.same {w w' : World} {p b n : Nat} {B : Nat → Bool} (h : RowAt w p b n B) (h1 : w'.heap[p]? = w.heap[p]?) (h2 : w'.heap[b]? = w.heap[b]?) : RowAt w' p b n B := ⟨h1.trans h.head, h2.trans h.body, h.small, h.tail⟩
theorem RowAt.kept {w w' : World} {p b n k : Nat} {B : Nat → Bool} (h : RowAt w p b n B) (hb : Below k w w') (hp : p < k) (hbk : b < k) : RowAt w' p b n B := h.same (hb.block p hp) (hb.block b hbk)
theorem RowAt.below {w w' : World} {p b n : Nat} {B : Nat → Bool} (h : RowAt w p b n B) (hb : Below w.heap.size w w') : RowAt w' p b n B := h.kept hb h.p_lt h.b_lt
theorem RowAt.drew {w : World} {p b n : Nat} {B : Nat → Bool} (h : RowAt w p b n B) : RowAt w.drew p b n B := ⟨h.head, h.body, h.small, h.tail⟩

/-! ### Where a bit is -/
theorem xor_nat (a b : Nat) (ha : a < 18446744073709551616) (hb : b < 18446744073709551616) : bits .xor .u64 (a : Nat) (b : Nat) = ((a ^^^ b : Nat) : Int) := by
  have hx : a ^^^ b < 2 ^ 64 := Nat.xor_lt_two_pow (by omega) (by omega)
  have h1 : (BitVec.ofInt 64 (a : Int)).toNat = a := by
    rw [BitVec.ofInt_natCast, BitVec.toNat_ofNat]; exact Nat.mod_eq_of_lt (by omega)
  have h2 : (BitVec.ofInt 64 (b : Int)).toNat = b := by
    rw [BitVec.ofInt_natCast, BitVec.toNat_ofNat]; exact Nat.mod_eq_of_lt (by omega)
  show IntKind.u64.wrap ((BitVec.ofInt 64 (a : Int) ^^^ BitVec.ofInt 64 (b : Int)).toNat : Int) = _
  rw [BitVec.toNat_xor, h1, h2, IntKind.wrap_u64]
  omega
/-- What words are turned over by. -/
def wantW (c : Bool) : Nat := if c then 0 else 18446744073709551615
theorem wantW_lt (c : Bool) : wantW c < 18446744073709551616 := by cases c <;> decide
/-- The bits from a on in a's word, those that are looked for as 1. -/
def seekW (B : Nat → Bool) (c : Bool) (a : Nat) : Nat := (num B (64 * (a / 64)) 64 ^^^ wantW c) / 2 ^ (a % 64)
theorem seekW_lt (B : Nat → Bool) (c : Bool) (a : Nat) : seekW B c a < 18446744073709551616 := by
  have h : num B (64 * (a / 64)) 64 ^^^ wantW c < 2 ^ 64 := Nat.xor_lt_two_pow (num_lt64 _ _) (wantW_lt c)
  exact Nat.lt_of_le_of_lt (Nat.div_le_self _ _) h

set_option maxRecDepth 20000 in
set_option maxHeartbeats 1000000 in
theorem seek_any (w : World) (p b n : Nat) (B : Nat → Bool) (a e : Nat) (c : Bool) (h : RowAt w p b n B) (ht : Steps w) (he : e ≤ n) (ha : a < 9223372036854775808) :
    Calls Tryd.prog 35 #[.pointer (some ⟨p, 0, none⟩), .int .i64 (a : Nat), .int .i64 (e : Nat), .int .u64 (wantW c : Nat)] w fun x w' => (∃ r : Nat, x = .returned (.int .i64 (r : Nat)) ∧ Seek B c a e r) ∧ w' = w := by
  have H : Hid (RowAt w p b n B) := h
  have HT : Hid (Steps w) := ht
  have hs := h.s_cell
  have hn := h.small
  have HW : Hid (wantW c < 18446744073709551616) := wantW_lt c
  clear h ht
  go_enter Tryd.func35, Tryd.ntmps35
  go_wp2
  go_loop [1] (fun at' => ∃ k : Nat, at' = .int .i64 (k : Nat) ∧ a ≤ k ∧ k < 9223372036854775808 ∧ Hid (∀ i, a ≤ i → i < k → i < e → B i = !c)) (fun at' => 65536 - (intOf at').toNat)
  case atStart => exact ⟨a, rfl, Nat.le_refl _, ha, fun i h1 h2 => by omega⟩
  case round =>
    obtain ⟨k, rfl, hak, hk63, HN⟩ := hrel
    by_cases hlt : k < e
    · have hj : k / 64 < wn n := wn_lt (Nat.lt_of_lt_of_le hlt he)
      have hcell := H.out.w_cell (k / 64) hj
      have hx := xor_nat (num B (64 * (k / 64)) 64) (wantW c) (num_lt64 _ _) HW.out
      have hq : ((k : Nat) : Int).tdiv 64 = ((k / 64 : Nat) : Int) := by simp
      have hr : ((k : Nat) : Int).tmod 64 = ((k % 64 : Nat) : Int) := Int.ofNat_tmod k 64
      have hd : ((num B (64 * (k / 64)) 64 ^^^ wantW c : Nat) : Int) / 2 ^ (k % 64) = (seekW B c k : Nat) := by unfold seekW; simp
      have hl := seekW_lt B c k
      have HX : Hid (seekW B c k = (num B (64 * (k / 64)) 64 ^^^ (if c then 0 else 18446744073709551615)) / 2 ^ (k % 64)) := rfl
      generalize seekW B c k = x at *
      by_cases h0 : x = 0
      · have HS : Hid (∀ i, k ≤ i → i < k + (64 - k % 64) → B i = !c) := seek_skip HX.out h0
        subst h0
        have hk : k % 64 < 64 := Nat.mod_lt _ (by decide)
        generalize hg : k % 64 = g at *
        go_wp2
        go_round
        case rel => exact ⟨k + (64 - g), by go_num, by omega, by omega, fun i h1 h2 h3 => by
          by_cases h4 : i < k
          · exact HN.out i h1 h4 h3
          · exact HS.out i (by omega) h2⟩
        case measure => simp [intOf]; omega
      · have HS := seek_word hlt HX.out h0
        have hb : (((x : Nat) : Int) != 0) = true := by simp; omega
        have hz := (ctz_bit h0 hl).1
        go_wp2_with fail
        refine (tz_any x hl h0 _ HT.out).mono ?_
        rintro e' w' ⟨rfl, rfl⟩
        generalize Lib.ctz 64 x = z at *
        by_cases hm : k + z < e
        · rw [if_pos hm] at HS
          have HS' : Hid (Seek B c k e (k + z)) := HS
          clear HS
          go_wp2
          go_ret
          exact ⟨⟨k + z, by go_num, ⟨fun i h1 h2 => by
            by_cases h4 : i < k
            · exact HN.out i h1 h4 (by omega)
            · exact HS'.out.none i (by omega) h2, HS'.out.here, by omega, by omega, by omega⟩⟩, rfl⟩
        · rw [if_neg hm] at HS
          have HS' : Hid (Seek B c a e e) := ⟨fun i h1 h2 => by
            by_cases h4 : i < k
            · exact HN.out i h1 h4 (by omega)
            · exact HS.none i (by omega) h2, by omega, by omega, by omega, by omega⟩
          clear HS
          by_cases hm2 : e < k + z
          · go_wp2
            go_ret
            exact ⟨⟨e, rfl, HS'.out⟩, rfl⟩
          · have hme : k + z = e := by omega
            go_wp2
            go_ret
            exact ⟨⟨e, by go_num, HS'.out⟩, rfl⟩
    · go_wp2
      go_ret
      exact ⟨⟨e, rfl, fun i h1 h2 => HN.out i h1 (by omega) h2, by omega, by omega, by omega, fun _ => rfl⟩, rfl⟩
end Go.Proofs.YthpodknhidgedaaDoor
