/- Plain arithmetic for zigzags in groups of seven bits. No Go in sight. -/
import Derived.Test.YtclondljjfljpaaMathNum
import Derived.Test.YtclondljjfljpaaMathOct
namespace Go.Proofs.Ytclondljjfljpaa
open Go.RowKit

/-- A number in groups of seven bits, the least first, each but the last with 128 on top: at most so many more. -/
def varF : Nat → Nat → List Nat
  | 0, u => [u]
  | k + 1, u => if u < 128 then [u] else (u % 128 + 128) :: varF k (u / 128)
/-- A number in groups of seven bits, the least first, each but the last with 128 on top. -/
def varN (u : Nat) : List Nat := varF u u
theorem varF_small (k u : Nat) (h : u < 128) : varF k u = [u] := by
  cases k with
  | zero => rfl
  | succ k => exact if_pos h
theorem varF_fuel (k : Nat) : ∀ j u, u ≤ k → u ≤ j → varF k u = varF j u := by
  induction k with
  | zero => intro j u h _; rw [varF_small 0 u (by omega), varF_small j u (by omega)]
  | succ k ih =>
    intro j u h1 h2
    by_cases h : u < 128
    · rw [varF_small _ u h, varF_small j u h]
    · cases j with
      | zero => omega
      | succ j =>
        show (if u < 128 then [u] else (u % 128 + 128) :: varF k (u / 128)) = (if u < 128 then [u] else (u % 128 + 128) :: varF j (u / 128))
        rw [if_neg h, if_neg h, ih j (u / 128) (by omega) (by omega)]
theorem varN_small {u : Nat} (h : u < 128) : varN u = [u] := varF_small u u h
theorem varN_great {u : Nat} (h : ¬ u < 128) : varN u = (u % 128 + 128) :: varN (u / 128) := by
  cases u with
  | zero => omega
  | succ v =>
    show (if v + 1 < 128 then [v + 1] else ((v + 1) % 128 + 128) :: varF v ((v + 1) / 128)) = _
    rw [if_neg h, varF_fuel v ((v + 1) / 128) ((v + 1) / 128) (by omega) (by omega)]
    rfl
/-- The number of groups of seven bits. -/
def decN : List Nat → Nat
  | [] => 0
  | c :: r => c % 128 + 128 * decN r
/-- Each octet but the last has its greatest bit. -/
def Shape : List Nat → Prop
  | [] => False
  | [c] => c < 128
  | c :: r => (128 ≤ c ∧ c < 256) ∧ Shape r
def lastN : List Nat → Nat
  | [] => 0
  | [c] => c
  | _ :: r => lastN r
theorem shape_cons {c : Nat} {r : List Nat} (hr : r ≠ []) : Shape (c :: r) ↔ (128 ≤ c ∧ c < 256) ∧ Shape r := by
  cases r with
  | nil => exact absurd rfl hr
  | cons d r => rfl
theorem last_cons {c : Nat} {r : List Nat} (hr : r ≠ []) : lastN (c :: r) = lastN r := by
  cases r with
  | nil => exact absurd rfl hr
  | cons d r => rfl
theorem varN_ne (u : Nat) : varN u ≠ [] := by
  by_cases h : u < 128
  · rw [varN_small h]; simp
  · rw [varN_great h]; simp
theorem varN_len (u : Nat) : 1 ≤ (varN u).length := List.length_pos_iff.2 (varN_ne u)
theorem decN_varN (u : Nat) : decN (varN u) = u := by
  induction u using Nat.strongRecOn with
  | _ u ih =>
    by_cases h : u < 128
    · rw [varN_small h]; simp [decN]; omega
    · rw [varN_great h]
      simp only [decN, ih (u / 128) (by omega)]
      omega
theorem varN_shape (u : Nat) : Shape (varN u) ∧ ((varN u).length = 1 ∨ lastN (varN u) ≠ 0) := by
  induction u using Nat.strongRecOn with
  | _ u ih =>
    by_cases h : u < 128
    · rw [varN_small h]; exact ⟨h, .inl rfl⟩
    · rw [varN_great h, shape_cons (varN_ne _), last_cons (varN_ne _)]
      obtain ⟨h1, h2⟩ := ih (u / 128) (by omega)
      refine ⟨⟨by omega, h1⟩, .inr ?_⟩
      rcases h2 with h2 | h2
      · have e : varN (u / 128) = [u / 128] := by
          by_cases h3 : u / 128 < 128
          · exact varN_small h3
          · rw [varN_great h3] at h2
            have := varN_len (u / 128 / 128)
            simp only [List.length_cons] at h2
            omega
        rw [e]
        simp only [lastN]
        omega
      · exact h2
theorem varN_oct (u : Nat) : ∀ z ∈ varN u, z < 256 := by
  induction u using Nat.strongRecOn with
  | _ u ih =>
    by_cases h : u < 128
    · rw [varN_small h]; intro z hz; simp at hz; omega
    · rw [varN_great h]
      intro z hz
      rcases List.mem_cons.1 hz with hz | hz
      · omega
      · exact ih (u / 128) (by omega) z hz
theorem shape_ne {l : List Nat} (h : Shape l) : l ≠ [] := by intro e; subst e; exact h
theorem decN_bd {l : List Nat} (h : Shape l) : 128 ^ (l.length - 1) * lastN l ≤ decN l ∧ decN l < 128 ^ (l.length - 1) * (lastN l + 1) := by
  induction l with
  | nil => exact h.elim
  | cons c r ih =>
    by_cases hr : r = []
    · subst hr
      have h : c < 128 := h
      simp [decN, lastN]; omega
    · rw [shape_cons hr] at h
      obtain ⟨h1, h2⟩ := ih h.2
      have hl : 1 ≤ r.length := List.length_pos_iff.2 hr
      rw [last_cons hr]
      simp only [decN, List.length_cons, Nat.add_sub_cancel]
      have e : 128 ^ r.length = 128 * 128 ^ (r.length - 1) := by
        rw [← Nat.pow_succ', show (r.length - 1).succ = r.length by omega]
      rw [e, Nat.mul_assoc, Nat.mul_assoc]
      omega
/-- As short as may be it is read as what it was written of. -/
theorem varN_decN {l : List Nat} (h : Shape l) (hg : l.length = 1 ∨ lastN l ≠ 0) : varN (decN l) = l := by
  induction l with
  | nil => exact h.elim
  | cons c r ih =>
    by_cases hr : r = []
    · subst hr
      have h : c < 128 := h
      rw [show decN [c] = c by simp [decN]; omega, varN_small h]
    · have hbd := decN_bd (shape_cons hr |>.1 h).2
      rw [shape_cons hr] at h
      rw [last_cons hr] at hg
      have hl : 1 ≤ r.length := List.length_pos_iff.2 hr
      have hg' : lastN r ≠ 0 := by
        rcases hg with hg | hg
        · simp only [List.length_cons] at hg; omega
        · exact hg
      have hp : 0 < 128 ^ (r.length - 1) := Nat.pow_pos (by decide)
      have hpos : 1 ≤ decN r := by
        have := Nat.mul_le_mul hp (show 1 ≤ lastN r by omega)
        omega
      have e1 : ¬ decN (c :: r) < 128 := by simp only [decN]; omega
      have e2 : decN (c :: r) % 128 + 128 = c := by simp only [decN]; omega
      have e3 : decN (c :: r) / 128 = decN r := by simp only [decN]; omega
      rw [varN_great e1, e2, e3, ih h.2 (.inr hg')]
theorem decN_snoc (l : List Nat) (c : Nat) : decN (l ++ [c]) = decN l + 128 ^ l.length * (c % 128) := by
  induction l with
  | nil => simp [decN]
  | cons x r ih =>
    simp only [List.cons_append, decN, ih, List.length_cons, Nat.pow_succ]
    rw [Nat.mul_add, Nat.mul_comm (128 ^ r.length) 128, Nat.mul_assoc]
    omega
theorem varN_le {u v : Nat} (h : u ≤ v) : (varN u).length ≤ (varN v).length := by
  induction v using Nat.strongRecOn generalizing u with
  | _ v ih =>
    by_cases hu : u < 128
    · rw [varN_small hu]; exact varN_len v
    · rw [varN_great hu, varN_great (show ¬ v < 128 by omega)]
      have := ih (v / 128) (by omega) (u := u / 128) (by omega)
      simp only [List.length_cons]
      omega
theorem varN_ten {u : Nat} (h : u < 18446744073709551616) : (varN u).length ≤ 10 := by
  have h1 := varN_shape u
  have h2 := decN_bd h1.1
  rw [decN_varN] at h2
  by_cases hl : (varN u).length ≤ 10
  · exact hl
  · exfalso
    have h3 : lastN (varN u) ≠ 0 := by rcases h1.2 with e | e <;> omega
    have h4 : 128 ^ 10 ≤ 128 ^ ((varN u).length - 1) := Nat.pow_le_pow_right (by decide) (by omega)
    have h5 := Nat.mul_le_mul h4 (show 1 ≤ lastN (varN u) by omega)
    have e : (128 : Nat) ^ 10 = 1180591620717411303424 := by decide
    omega

/-! ### Where a zigzag ends -/
/-- The number of the first octet without the greatest bit, among the first ten. -/
def zigEnd (zs : List Nat) : Option Nat := (zs.take 10).findIdx? fun c => decide (c < 128)
def zigOk (i c : Nat) : Bool := !((decide (0 < i) && decide (c = 0)) || (decide (i = 9) && decide (1 < c)))
/-- How many octets the zigzag at the beginning has, if it is right. -/
def zigN (zs : List Nat) : Option Nat := match zigEnd zs with
  | none => none
  | some i => if zigOk i (zs[i]?.getD 0) then some (i + 1) else none
theorem zigEnd_some {zs : List Nat} {i : Nat} (hi : i < zs.length) (h10 : i < 10) (hc : zs[i]?.getD 0 < 128) (hall : ∀ j, j < i → 128 ≤ zs[j]?.getD 0) : zigEnd zs = some i := by
  unfold zigEnd
  rw [List.findIdx?_eq_some_iff_getElem]
  refine ⟨by rw [List.length_take]; omega, ?_, fun j hj => ?_⟩
  · rw [List.getElem?_eq_getElem hi] at hc
    simpa [List.getElem_take] using hc
  · have := hall j hj
    rw [List.getElem?_eq_getElem (by omega)] at this
    simpa [List.getElem_take] using this
theorem zigEnd_none {zs : List Nat} (hall : ∀ j, j < zs.length → j < 10 → 128 ≤ zs[j]?.getD 0) : zigEnd zs = none := by
  unfold zigEnd
  rw [List.findIdx?_eq_none_iff]
  intro x hx
  obtain ⟨j, hj, rfl⟩ := List.mem_iff_getElem.1 hx
  rw [List.length_take] at hj
  have := hall j (by omega) (by omega)
  rw [List.getElem?_eq_getElem (by omega)] at this
  simpa [List.getElem_take] using this
theorem zigEnd_spec {zs : List Nat} {i : Nat} (h : zigEnd zs = some i) : i < zs.length ∧ i < 10 ∧ zs[i]?.getD 0 < 128 ∧ ∀ j, j < i → 128 ≤ zs[j]?.getD 0 := by
  unfold zigEnd at h
  rw [List.findIdx?_eq_some_iff_getElem] at h
  obtain ⟨hi, h1, h2⟩ := h
  rw [List.length_take] at hi
  refine ⟨by omega, by omega, ?_, fun j hj => ?_⟩
  · rw [List.getElem?_eq_getElem (by omega)]
    simpa [List.getElem_take] using h1
  · have := h2 j hj
    rw [List.getElem?_eq_getElem (by omega)]
    simpa [List.getElem_take] using this

/-- The octets up to where a zigzag ends have its shape. -/
theorem shape_take {zs : List Nat} (hz : ∀ z ∈ zs, z < 256) {i : Nat} (hi : i < zs.length) (hc : zs[i]?.getD 0 < 128) (hall : ∀ j, j < i → 128 ≤ zs[j]?.getD 0) : Shape (zs.take (i + 1)) ∧ lastN (zs.take (i + 1)) = zs[i]?.getD 0 := by
  induction zs generalizing i with
  | nil => simp at hi
  | cons c r ih =>
    cases i with
    | zero => exact ⟨hc, rfl⟩
    | succ i =>
      have h0 := hall 0 (by omega)
      simp only [List.getElem?_cons_zero, Option.getD_some] at h0
      simp only [List.length_cons] at hi
      obtain ⟨h1, h2⟩ := ih (fun z h => hz z (by simp [h])) (i := i) (by omega) (by simpa using hc) (fun j hj => by simpa using hall (j + 1) (by omega))
      rw [List.take_succ_cons]
      rw [shape_cons (shape_ne h1), last_cons (shape_ne h1), h2]
      exact ⟨⟨⟨h0, hz c (by simp)⟩, h1⟩, by simp⟩
theorem pow9 : (128 : Nat) ^ 9 = 9223372036854775808 := by decide
/-- Of a right one of at most ten octets: 64 bits hold it, and written again it is the same. -/
theorem good_zig {l : List Nat} (h : Shape l) (hl : l.length ≤ 10) (hok : zigOk (l.length - 1) (lastN l) = true) : decN l < 18446744073709551616 ∧ varN (decN l) = l := by
  have hne : 1 ≤ l.length := List.length_pos_iff.2 (shape_ne h)
  have hbd := decN_bd h
  have hlast : lastN l < 128 := by
    clear hbd hok hl hne
    induction l with
    | nil => exact h.elim
    | cons c r ih =>
      by_cases hr : r = []
      · subst hr; exact h
      · rw [last_cons hr]; exact ih ((shape_cons hr).1 h).2
  simp [zigOk] at hok
  refine ⟨?_, varN_decN h (by omega)⟩
  by_cases h10 : l.length = 10
  · have e : l.length - 1 = 9 := by omega
    rw [e, pow9] at hbd
    have : lastN l ≤ 1 := by omega
    omega
  · have h4 : 128 ^ (l.length - 1) ≤ 128 ^ 8 := Nat.pow_le_pow_right (by decide) (by omega)
    have h5 := Nat.mul_le_mul h4 (show lastN l + 1 ≤ 128 by omega)
    have e : (128 : Nat) ^ 8 * 128 = 9223372036854775808 := by decide
    omega
/-- What is written of a number of 64 bits is right. -/
theorem bad_zig {l : List Nat} (hl : l.length ≤ 10) {u : Nat} (hu : u < 18446744073709551616) (he : varN u = l) : zigOk (l.length - 1) (lastN l) = true := by
  subst he
  obtain ⟨h1, h2⟩ := varN_shape u
  have hne := varN_len u
  have hbd := decN_bd h1
  rw [decN_varN] at hbd
  by_cases h9 : (varN u).length - 1 = 9
  · rw [h9, pow9] at hbd
    simp [zigOk]
    omega
  · simp [zigOk]
    omega
theorem decN_append (a b : List Nat) : decN (a ++ b) = decN a + 128 ^ a.length * decN b := by
  induction a with
  | nil => simp [decN]
  | cons x r ih =>
    simp only [List.cons_append, decN, ih, List.length_cons, Nat.pow_succ]
    rw [Nat.mul_add, Nat.mul_comm (128 ^ r.length) 128, Nat.mul_assoc]
    omega
theorem decN_lt (l : List Nat) : decN l < 128 ^ l.length := by
  induction l with
  | nil => simp [decN]
  | cons x r ih => simp only [decN, List.length_cons, Nat.pow_succ]; omega
theorem decN_take (l : List Nat) (k : Nat) : decN (l.take k) ≤ decN l := by
  have h := decN_append (l.take k) (l.drop k)
  rw [List.take_append_drop] at h
  omega
theorem pow7 (k : Nat) : ((128 ^ k : Nat) : Int) = 2 ^ (7 * k) := by
  rw [show (128 : Nat) = 2 ^ 7 by rfl, ← Nat.pow_mul, Int.natCast_pow]
  rfl
/-- One step of 'joined': the group c behind what is there. -/
theorem join_step (l : List Nat) (c : Nat) (hl : l.length ≤ 9) (h : decN (l ++ [c]) < 18446744073709551616) :
    bits .or .u64 (decN l : Nat) (IntKind.u64.wrap (((c % 128 : Nat) : Int) * 2 ^ (7 * l.length))) = (decN (l ++ [c]) : Nat) := by
  have h1 := decN_lt l
  rw [decN_snoc] at h ⊢
  have e : ((c % 128 : Nat) : Int) * 2 ^ (7 * l.length) = ((128 ^ l.length * (c % 128) : Nat) : Int) := by
    rw [← pow7, Int.natCast_mul, Int.mul_comm]
  have e2 : IntKind.u64.wrap ((128 ^ l.length * (c % 128) : Nat) : Int) = ((128 ^ l.length * (c % 128) : Nat) : Int) := by
    rw [IntKind.wrap_u64]; omega
  rw [e, e2, or_u64_add _ _ (7 * l.length) (by omega) (by omega) (by rw [← pow7]; omega) (by omega) ?_ (by omega)]
  · omega
  · rw [← pow7, Int.natCast_mul]; exact Int.mul_emod_right _ _
theorem andNot_u8 : ∀ c : Nat, c < 256 → bits .andNot .u8 (c : Int) 128 = ((c % 128 : Nat) : Int) := by decide +kernel
theorem or_u8 : ∀ c : Nat, c < 256 → bits .or .u8 (c : Int) 128 = ((c % 128 + 128 : Nat) : Int) := by decide +kernel

/-- Octets of a shape: which have the greatest bit. -/
theorem shape_at {l : List Nat} (h : Shape l) : l[l.length - 1]?.getD 0 = lastN l ∧ lastN l < 128 ∧ ∀ j, j < l.length - 1 → 128 ≤ l[j]?.getD 0 := by
  induction l with
  | nil => exact h.elim
  | cons c r ih =>
    by_cases hr : r = []
    · subst hr
      exact ⟨rfl, h, fun j hj => by simp at hj⟩
    · rw [shape_cons hr] at h
      obtain ⟨h1, h2, h3⟩ := ih h.2
      have hl : 1 ≤ r.length := List.length_pos_iff.2 hr
      rw [last_cons hr]
      refine ⟨?_, h2, fun j hj => ?_⟩
      · rw [← h1, List.length_cons, show r.length + 1 - 1 = (r.length - 1) + 1 by omega, List.getElem?_cons_succ]
      · cases j with
        | zero => simpa using h.1.1
        | succ j =>
          rw [List.getElem?_cons_succ]
          simp only [List.length_cons] at hj
          exact h3 j (by omega)
/-- What is written of a number is read again, whatever stands behind it. -/
theorem zigN_varN {u : Nat} (hu : u < 18446744073709551616) (rest : List Nat) : zigN (varN u ++ rest) = some (varN u).length := by
  have h1 := (varN_shape u).1
  have hne := varN_len u
  have ht := varN_ten hu
  obtain ⟨a1, a2, a3⟩ := shape_at h1
  have g : ∀ j, j < (varN u).length → (varN u ++ rest)[j]?.getD 0 = (varN u)[j]?.getD 0 := fun j hj => by rw [List.getElem?_append_left hj]
  have e : zigEnd (varN u ++ rest) = some ((varN u).length - 1) := by
    refine zigEnd_some (by rw [List.length_append]; omega) (by omega) (by rw [g _ (by omega), a1]; exact a2) fun j hj => ?_
    rw [g _ (by omega)]; exact a3 j hj
  have ok := bad_zig ht hu rfl
  unfold zigN
  rw [e]
  simp only []
  rw [g _ (by omega), a1, if_pos ok]
  congr 1; omega
theorem zigN_long {u : Nat} (hu : u < 18446744073709551616) : zigN ((varN u).set ((varN u).length - 1) (lastN (varN u) % 128 + 128) ++ [0]) = none := by
  have h1 := (varN_shape u).1
  have hne := varN_len u
  have ht := varN_ten hu
  obtain ⟨a1, a2, a3⟩ := shape_at h1
  generalize varN u = l at *
  have hls : (l.set (l.length - 1) (lastN l % 128 + 128)).length = l.length := by simp
  have g : ∀ j, j < l.length → 128 ≤ (l.set (l.length - 1) (lastN l % 128 + 128) ++ [0])[j]?.getD 0 := fun j hj => by
    rw [List.getElem?_append_left (by omega), List.getElem?_set]
    by_cases hj2 : l.length - 1 = j
    · rw [if_pos hj2, if_pos (by omega)]; simp
    · rw [if_neg hj2]; exact a3 j (by omega)
  unfold zigN
  by_cases h10 : l.length = 10
  · rw [zigEnd_none (fun j _ hj => g j (by omega))]
  · have g2 : (l.set (l.length - 1) (lastN l % 128 + 128) ++ [0])[l.length]?.getD 0 = 0 := by
      rw [List.getElem?_append_right (by omega), hls]; simp
    rw [zigEnd_some (i := l.length) (by rw [List.length_append, hls]; simp) (by omega) (by rw [g2]; decide) g]
    simp only []
    have hp : decide (0 < l.length) = true := decide_eq_true (by omega)
    rw [g2, if_neg]
    unfold zigOk
    rw [hp]
    simp
/-- What 'zigzag' answers. -/
def zigR (zs : List Nat) : Int := match zigN zs with
  | none => -1
  | some n => n
/-- The zigzag at the beginning of octets, if it is right. -/
theorem zigN_good {zs : List Nat} (hz : ∀ z ∈ zs, z < 256) {n : Nat} (h : zigN zs = some n) : n ≤ zs.length ∧ 1 ≤ n ∧ n ≤ 10 ∧ Shape (zs.take n) ∧ decN (zs.take n) < 18446744073709551616 ∧ varN (decN (zs.take n)) = zs.take n := by
  unfold zigN at h
  cases he : zigEnd zs with
  | none => rw [he] at h; simp at h
  | some i =>
    rw [he] at h
    simp only [] at h
    obtain ⟨h1, h2, h3, h4⟩ := zigEnd_spec he
    by_cases ok : zigOk i (zs[i]?.getD 0) = true
    · rw [if_pos ok] at h
      obtain rfl : i + 1 = n := by simpa using h
      obtain ⟨hs, hl⟩ := shape_take hz h1 h3 h4
      have hlen : (zs.take (i + 1)).length = i + 1 := by rw [List.length_take]; omega
      have hg := good_zig hs (by omega) (by rw [hlen, hl, Nat.add_sub_cancel]; exact ok)
      exact ⟨by omega, by omega, by omega, hs, hg.1, hg.2⟩
    · rw [if_neg ok] at h; simp at h
end Go.Proofs.Ytclondljjfljpaa
