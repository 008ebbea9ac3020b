/- Contracts of the reference's functions over lists of bits (of, Low, Signed): what each call returns. -/
import Derived.Test.YtfclhehpbniapaaWalkSmall
import Derived.Test.YtfclhehpbniapaaTools
namespace Go.Proofs.Ytfclhehpbniapaa
open Go.RowKit
set_option linter.unusedVariables false

theorem Try.infoInt : (Try.prog.info? 3).map (fun i => (i.zero, i.size, i.bytes)) = some (some (.int .i64 0), 1, 8) := by kernel_rfl
theorem Try.infoU8 : (Try.prog.info? 5).map (fun i => (i.zero, i.size, i.bytes)) = some (some (.int .u8 0), 1, 1) := by kernel_rfl

theorem of_any (g cap : Nat) (xs : List Int) (w : World) (hx : ∀ b ∈ xs, 0 ≤ b ∧ b ≤ 1) (hl : xs.length ≤ 64)
    (hc : ∀ j, j < xs.length → w.cell? ⟨g, j, none⟩ = some (.int .i64 (xs[j]?.getD 0))) :
    Calls Try.prog 43 #[.slice (some ⟨g, 0, none⟩) xs.length cap] w fun e w' => e = .returned (.int .i64 (wrap64 (ofN xs))) ∧ w' = w := by
  have HX : Hid (∀ b ∈ xs, 0 ≤ b ∧ b ≤ 1) := hx
  have HC : Hid (∀ j, j < xs.length → w.cell? ⟨g, j, none⟩ = some (.int .i64 (xs[j]?.getD 0))) := hc
  clear hx hc
  go_enter Try.func43, Try.ntmps43
  go_wp2
  go_loop [3, 4] (fun u i => ∃ k : Nat, k ≤ xs.length ∧ i = .int .i64 ((k : Int) - 1) ∧ u = .int .u64 (ofN (xs.drop k))) (fun _ i => (intOf i + 1).toNat)
  case atStart => exact ⟨xs.length, Nat.le_refl _, rfl, by simp [ofN]⟩
  case round =>
    obtain ⟨k, hk, rfl, rfl⟩ := hrel
    cases k with
    | zero =>
      go_wp2
      go_ret
      exact ⟨ret_int (by simp), rfl⟩
    | succ k =>
      have hcell := HC.out k (by omega)
      have hb := getD_bit xs HX.out k
      have hd := ofN_drop_bd xs HX.out hl (k + 1) (by omega) hk
      have HS : Hid (ofN (xs.drop k) = ofN (xs.drop (k + 1)) * 2 + xs[k]?.getD 0) := ofN_drop xs k (by omega)
      go_wp2
      go_round
      case rel => exact ⟨k, by omega, by congr 1, by rw [HS.out]⟩
      case measure => simp [intOf]

theorem of_nil (w : World) :
    Calls Try.prog 43 #[.slice none 0 0] w fun e w' => e = .returned (.int .i64 (wrap64 (ofN []))) ∧ w' = w := by
  go_enter Try.func43, Try.ntmps43
  go_wp2
  refine wp_loop_rounds 1 ?_
  rw [rounds_succ]
  go_wp2
  go_ret
  exact ⟨ret_int (by simp [ofN, wrap64]), rfl⟩

/-- A row that the call owns, as a list of ints: what 'of' wants of it. -/
theorem of_own (base n : Nat) (v : Value) (xs : List Int) (w : World) (hx : ∀ b ∈ xs, 0 ≤ b ∧ b ≤ 1) (hl : xs.length ≤ 64)
    (h : w.ownsRow base 3 1 v n (xs.map (Value.int .i64))) :
    Calls Try.prog 43 #[v] w fun e w' => e = .returned (.int .i64 (wrap64 (ofN xs))) ∧ w' = w := by
  have h1 := h.1
  simp at h1
  rcases h.2 with ⟨rfl, hn⟩ | ⟨g, cap, cur, rfl, hb, hg, hrest⟩
  · have : xs = [] := List.eq_nil_of_length_eq_zero (by omega)
    subst this
    exact of_nil w
  · subst h1
    refine of_any g cap xs w hx hl ?_
    intro j hj
    have := h.cells (g := g) rfl j (.int .i64 (xs[j]?.getD 0)) (by simp [List.getElem?_map, List.getElem?_eq_getElem hj])
    rwa [addr_add] at this

def lastI (n : Int) (k i : Nat) : Int := if i = 0 then 0 else sbit n k (i - 1)
theorem lastI_lo (n : Int) (k i : Nat) (h : i < k) : sbit n k i = n / 2 ^ i % 2 := by
  unfold sbit; rw [if_neg (by omega), show min i (k - 1) = i by omega]
theorem lastI_hi (n : Int) (k i : Nat) (h : ¬ i < k) : lastI n k i = sbit n k i := by
  unfold lastI sbit
  by_cases h0 : k = 0
  · simp [h0]
  · rw [if_neg (by omega), if_neg h0, if_neg h0, show min (i - 1) (k - 1) = min i (k - 1) by omega]
theorem lastI_succ (n : Int) (k i : Nat) : lastI n k (i + 1) = sbit n k i := by unfold lastI; rw [if_neg (by omega)]; simp

end Go.Proofs.Ytfclhehpbniapaa
