/- Rows of bits in plain numbers: words of them, how many are set, where one is, runs turned over. No Go in sight. -/
import Derived.Test.YthpodknhidgedaaDoorMath
import Derived.Lib.TrailingZeros
namespace Go.Proofs.YthpodknhidgedaaDoor
open Go.RowKit
set_option linter.unusedVariables false

/-! ### Words -/
/-- k bits of B from o on, as a number. -/
def num (B : Nat → Bool) (o : Nat) : Nat → Nat
  | 0 => 0
  | k + 1 => 2 ^ k * (B (o + k)).toNat + num B o k
theorem num_lt (B : Nat → Bool) (o : Nat) : ∀ k, num B o k < 2 ^ k
  | 0 => by simp [num]
  | k + 1 => by
    have h := num_lt B o k
    rw [num, Nat.pow_succ]
    cases B (o + k) <;> simp <;> omega
theorem num_lt64 (B : Nat → Bool) (o : Nat) : num B o 64 < 18446744073709551616 := num_lt B o 64
theorem num_bit (B : Nat → Bool) (o : Nat) : ∀ k i, (num B o k).testBit i = (decide (i < k) && B (o + i))
  | 0, i => by simp [num]
  | k + 1, i => by
    rw [num, Nat.testBit_two_pow_mul_add _ (num_lt B o k)]
    by_cases h : i < k
    · rw [if_pos h, num_bit B o k i]
      simp [h, show i < k + 1 by omega]
    · rw [if_neg h]
      by_cases h2 : i = k
      · subst h2
        cases hB : B (o + i) <;> simp
      · rw [decide_eq_false (show ¬ i < k + 1 by omega)]
        obtain ⟨d, hd⟩ : ∃ d, i - k = d + 1 := ⟨i - k - 1, by omega⟩
        rw [hd, Nat.testBit_succ]
        cases B (o + k) <;> simp
theorem num_congr {B C : Nat → Bool} {o : Nat} : ∀ {k : Nat}, (∀ i, i < k → B (o + i) = C (o + i)) → num B o k = num C o k
  | 0, _ => rfl
  | k + 1, h => by rw [num, num, h k (by omega), num_congr fun i hi => h i (by omega)]

/-- How many of k bits from o on are set. -/
def cnt (B : Nat → Bool) (o : Nat) : Nat → Nat
  | 0 => 0
  | k + 1 => cnt B o k + (B (o + k)).toNat
theorem cnt_le (B : Nat → Bool) (o : Nat) : ∀ k, cnt B o k ≤ k
  | 0 => Nat.le_refl _
  | k + 1 => by
    have := cnt_le B o k
    rw [cnt]
    cases B (o + k) <;> simp <;> omega
theorem cnt_congr {B C : Nat → Bool} {o p : Nat} : ∀ {k : Nat}, (∀ i, i < k → B (o + i) = C (p + i)) → cnt B o k = cnt C p k
  | 0, _ => rfl
  | k + 1, h => by rw [cnt, cnt, h k (by omega), cnt_congr fun i hi => h i (by omega)]
theorem cnt_add (B : Nat → Bool) (o k : Nat) : ∀ m, cnt B o (k + m) = cnt B o k + cnt B (o + k) m
  | 0 => rfl
  | m + 1 => by
    rw [← Nat.add_assoc, cnt, cnt, cnt_add B o k m, Nat.add_assoc o k m]
    omega
theorem cnt_none {B : Nat → Bool} {o : Nat} : ∀ {k : Nat}, (∀ i, i < k → B (o + i) = false) → cnt B o k = 0
  | 0, _ => rfl
  | k + 1, h => by rw [cnt, cnt_none fun i hi => h i (by omega), h k (by omega)]; rfl
theorem cnt_all {B : Nat → Bool} {o : Nat} : ∀ {k : Nat}, (∀ i, i < k → B (o + i) = true) → cnt B o k = k
  | 0, _ => rfl
  | k + 1, h => by rw [cnt, cnt_all fun i hi => h i (by omega), h k (by omega)]; rfl

/-! ### How many bits of a word are set, as the library counts them -/
/-- n octets of m. -/
def octM (m : Nat) : Nat → Nat
  | 0 => 0
  | n + 1 => m + 256 * octM m n
/-- f of each octet. -/
def octD (f : Nat → Nat) : Nat → Nat → Nat
  | 0, _ => 0
  | n + 1, x => f (x % 256) + 256 * octD f n (x / 256)
theorem and_oct (x m q : Nat) (hm : m < 256) : x &&& (m + 256 * q) = ((x % 256) &&& m) + 256 * ((x / 256) &&& q) := by
  have h := Nat.mod_add_div (x &&& (m + 256 * q)) (2 ^ 8)
  rw [Nat.and_mod_two_pow, Nat.and_div_two_pow] at h
  have e1 : (m + 256 * q) % 2 ^ 8 = m := by omega
  have e2 : (m + 256 * q) / 2 ^ 8 = q := by omega
  rw [e1, e2] at h
  exact h.symm
def pg1 (b : Nat) : Nat := ((b / 2) &&& 85) + (b &&& 85)
def pg2 (b : Nat) : Nat := ((b / 4) &&& 51) + (b &&& 51)
theorem pg1_cut : ∀ b : Fin 256, ∀ c : Fin 2, (b.val / 2 + 128 * c.val) &&& 85 = (b.val / 2) &&& 85 := by decide +kernel
theorem pg2_cut : ∀ b : Fin 256, ∀ c : Fin 4, (b.val / 4 + 64 * c.val) &&& 51 = (b.val / 4) &&& 51 := by decide +kernel
theorem pop1 : ∀ n x, ((x / 2) &&& octM 85 n) + (x &&& octM 85 n) = octD pg1 n x
  | 0, x => by simp [octM, octD]
  | n + 1, x => by
    have ih := pop1 n (x / 256)
    have h := pg1_cut ⟨x % 256, by omega⟩ ⟨x / 256 % 2, by omega⟩
    simp only at h
    have e1 : x / 2 % 256 = x % 256 / 2 + 128 * (x / 256 % 2) := by omega
    have e2 : x / 2 / 256 = x / 256 / 2 := by omega
    rw [octM, octD, and_oct _ _ _ (by decide), and_oct _ _ _ (by decide), e1, e2, h, ← ih, pg1]
    omega
theorem pop2 : ∀ n x, ((x / 4) &&& octM 51 n) + (x &&& octM 51 n) = octD pg2 n x
  | 0, x => by simp [octM, octD]
  | n + 1, x => by
    have ih := pop2 n (x / 256)
    have h := pg2_cut ⟨x % 256, by omega⟩ ⟨x / 256 % 4, by omega⟩
    simp only at h
    have e1 : x / 4 % 256 = x % 256 / 4 + 64 * (x / 256 % 4) := by omega
    have e2 : x / 4 / 256 = x / 256 / 4 := by omega
    rw [octM, octD, and_oct _ _ _ (by decide), and_oct _ _ _ (by decide), e1, e2, h, ← ih, pg2]
    omega
theorem octD_octD (f g : Nat → Nat) (hg : ∀ b, b < 256 → g b < 256) : ∀ n x, octD f n (octD g n x) = octD (fun b => f (g b)) n x
  | 0, _ => rfl
  | n + 1, x => by
    have h := hg (x % 256) (by omega)
    have e1 : (g (x % 256) + 256 * octD g n (x / 256)) % 256 = g (x % 256) := by omega
    have e2 : (g (x % 256) + 256 * octD g n (x / 256)) / 256 = octD g n (x / 256) := by omega
    rw [octD, octD, octD, e1, e2, octD_octD f g hg n (x / 256)]
def ph (b : Nat) : Nat := pg2 (pg1 b)
theorem pg1_lt' : ∀ b : Fin 256, pg1 b.val < 256 := by decide +kernel
theorem pg1_lt (b : Nat) (h : b < 256) : pg1 b < 256 := pg1_lt' ⟨b, h⟩
theorem ph_small' : ∀ b : Fin 256, ph b.val % 16 ≤ 4 ∧ ph b.val / 16 ≤ 4 := by decide +kernel
theorem ph_small (b : Nat) (h : b < 256) : ph b % 16 ≤ 4 ∧ ph b / 16 ≤ 4 := ph_small' ⟨b, h⟩
theorem ph_low : ∀ n x, octD ph n x % 16 ≤ 4
  | 0, _ => by simp [octD]
  | n + 1, x => by
    have := ph_small (x % 256) (by omega)
    rw [octD]
    omega
def pp (b : Nat) : Nat := ph b % 16 + ph b / 16
theorem pop3 : ∀ n x, (octD ph n x / 16 + octD ph n x) &&& octM 15 n = octD pp n x
  | 0, _ => by simp [octM, octD]
  | n + 1, x => by
    have ih := pop3 n (x / 256)
    have h := ph_small (x % 256) (by omega)
    have hl := ph_low n (x / 256)
    have e1 : ((ph (x % 256) + 256 * octD ph n (x / 256)) / 16 + (ph (x % 256) + 256 * octD ph n (x / 256))) % 256 = ph (x % 256) / 16 + ph (x % 256) + 16 * (octD ph n (x / 256) % 16) := by omega
    have e2 : ((ph (x % 256) + 256 * octD ph n (x / 256)) / 16 + (ph (x % 256) + 256 * octD ph n (x / 256))) / 256 = octD ph n (x / 256) / 16 + octD ph n (x / 256) := by omega
    rw [octM, octD, octD, and_oct _ _ _ (by decide), e1, e2, ih, show (15 : Nat) = 2 ^ 4 - 1 from rfl, Nat.and_two_pow_sub_one_eq_mod, pp]
    omega
theorem pp_cnt' : ∀ b : Fin 256, pp b.val = cnt (fun i => b.val.testBit i) 0 8 := by decide +kernel
theorem pp_cnt (b : Nat) (h : b < 256) : pp b = cnt (fun i => b.testBit i) 0 8 := pp_cnt' ⟨b, h⟩
theorem pp_le (b : Nat) (h : b < 256) : pp b ≤ 8 := by rw [pp_cnt b h]; exact cnt_le _ _ _
def pps : Nat → Nat → Nat
  | 0, _ => 0
  | n + 1, x => pp (x % 256) + pps n (x / 256)
theorem pps_cnt : ∀ n x, pps n x = cnt (fun i => x.testBit i) 0 (8 * n)
  | 0, _ => rfl
  | n + 1, x => by
    rw [pps, pp_cnt _ (by omega), pps_cnt n (x / 256), show 8 * (n + 1) = 8 + 8 * n by omega, cnt_add]
    have e1 : cnt (fun i => (x % 256).testBit i) 0 8 = cnt (fun i => x.testBit i) 0 8 := cnt_congr fun i hi => by
      rw [Nat.zero_add, show (256 : Nat) = 2 ^ 8 from rfl, Nat.testBit_mod_two_pow]
      simp [hi]
    have e2 : cnt (fun i => (x / 256).testBit i) 0 (8 * n) = cnt (fun i => x.testBit i) (0 + 8) (8 * n) := cnt_congr fun i hi => by
      show (x / 256).testBit (0 + i) = x.testBit (0 + 8 + i)
      rw [Nat.zero_add, show (256 : Nat) = 2 ^ 8 from rfl, Nat.testBit_div_two_pow, Nat.zero_add, Nat.add_comm]
    rw [e1, e2]
/-- The number as it stands when the octets are counted. -/
def popX (x : Nat) : Nat := octD pp 8 x
theorem popX_step (x : Nat) : ((octD pg1 8 x / 4 &&& octM 51 8) + (octD pg1 8 x &&& octM 51 8)) = octD ph 8 x := by
  rw [pop2, octD_octD pg2 pg1 pg1_lt]; rfl
theorem octD_bd (f : Nat → Nat) (m : Nat) (hf : ∀ b, b < 256 → f b ≤ m) : ∀ n x, octD f n x ≤ octM m n
  | 0, _ => Nat.le_refl _
  | n + 1, x => by
    have := hf (x % 256) (by omega)
    have := octD_bd f m hf n (x / 256)
    rw [octD, octM]
    omega
theorem div256 (p t : Nat) (h : p < 256) : (p + 256 * t) / 256 = t := by omega
theorem div64k (a b t : Nat) (ha : a < 256) (hb : b < 256) : (a + 256 * b + 65536 * t) / 65536 = t := by omega
theorem div4g (a b c d t : Nat) (ha : a < 256) (hb : b < 256) (hc : c < 256) (hd : d < 256) : (a + 256 * b + 65536 * c + 16777216 * d + 4294967296 * t) / 4294967296 = t := by omega
theorem sum1 (p0 p1 p2 p3 p4 p5 p6 p7 : Nat) : p0 + 256 * (p1 + 256 * (p2 + 256 * (p3 + 256 * (p4 + 256 * (p5 + 256 * (p6 + 256 * (p7 + 256 * 0))))))) + (p1 + 256 * (p2 + 256 * (p3 + 256 * (p4 + 256 * (p5 + 256 * (p6 + 256 * (p7 + 256 * 0)))))))
    = (p0 + p1) + 256 * (p1 + p2) + 65536 * ((p2 + p3) + 256 * (p3 + p4) + 65536 * (p4 + p5) + 16777216 * (p5 + p6) + 4294967296 * (p6 + p7 + 256 * p7)) := by omega
theorem sum2 (p0 p1 p2 p3 p4 p5 p6 p7 : Nat) : (p0 + p1) + 256 * (p1 + p2) + 65536 * ((p2 + p3) + 256 * (p3 + p4) + 65536 * (p4 + p5) + 16777216 * (p5 + p6) + 4294967296 * (p6 + p7 + 256 * p7)) + ((p2 + p3) + 256 * (p3 + p4) + 65536 * (p4 + p5) + 16777216 * (p5 + p6) + 4294967296 * (p6 + p7 + 256 * p7))
    = (p0 + p1 + p2 + p3) + 256 * (p1 + p2 + p3 + p4) + 65536 * (p2 + p3 + p4 + p5) + 16777216 * (p3 + p4 + p5 + p6) + 4294967296 * ((p4 + p5 + p6 + p7) + 256 * (p5 + p6 + p7) + 65536 * (p6 + p7) + 16777216 * p7) := by omega
theorem sum3 (a b c d e f g h : Nat) : a + 256 * b + 65536 * c + 16777216 * d + 4294967296 * (e + 256 * f + 65536 * g + 16777216 * h) + (e + 256 * f + 65536 * g + 16777216 * h)
    = (a + e) + 128 * (2 * (b + f) + 512 * (c + g) + 131072 * (d + h) + 33554432 * (e + 256 * f + 65536 * g + 16777216 * h)) := by omega
theorem mod128 (a t : Nat) (h : a < 128) : (a + 128 * t) % 128 = a := by omega
theorem octM8 : octM 8 8 = 578721382704613384 := by decide
theorem pop_sum (p0 p1 p2 p3 p4 p5 p6 p7 a b c : Nat) (h0 : p0 ≤ 8) (h1 : p1 ≤ 8) (h2 : p2 ≤ 8) (h3 : p3 ≤ 8) (h4 : p4 ≤ 8) (h5 : p5 ≤ 8) (h6 : p6 ≤ 8) (h7 : p7 ≤ 8)
    (ea : a = p0 + 256 * (p1 + 256 * (p2 + 256 * (p3 + 256 * (p4 + 256 * (p5 + 256 * (p6 + 256 * (p7 + 256 * 0))))))) + (p0 + 256 * (p1 + 256 * (p2 + 256 * (p3 + 256 * (p4 + 256 * (p5 + 256 * (p6 + 256 * (p7 + 256 * 0)))))))) / 256)
    (eb : b = a + a / 65536) (ec : c = b + b / 4294967296) : c % 128 = p0 + (p1 + (p2 + (p3 + (p4 + (p5 + (p6 + (p7 + 0))))))) := by
  rw [div256 p0 _ (Nat.lt_of_le_of_lt h0 (by decide)), sum1] at ea
  rw [ea, div64k _ _ _ (by clear ea eb ec; omega) (by clear ea eb ec; omega), sum2] at eb
  rw [eb, div4g _ _ _ _ _ (by clear ea eb ec; omega) (by clear ea eb ec; omega) (by clear ea eb ec; omega) (by clear ea eb ec; omega), sum3] at ec
  rw [ec, mod128 _ _ (by clear ea eb ec; omega)]
  clear ea eb ec h0 h1 h2 h3 h4 h5 h6 h7
  omega
theorem pop_bd (X a b c : Nat) (hX : X ≤ 578721382704613384) (ea : a = X + X / 256) (eb : b = a + a / 65536) (ec : c = b + b / 4294967296) : a < 1152921504606846976 ∧ b < 1152921504606846976 ∧ c < 1152921504606846976 := by
  have b1 : X / 256 ≤ 578721382704613384 / 256 := Nat.div_le_div_right hX
  have b2 : a ≤ 580982013106428280 := by omega
  have b3 : a / 65536 ≤ 580982013106428280 / 65536 := Nat.div_le_div_right b2
  have b4 : b ≤ 600000000000000000 := by omega
  have b5 : b / 4294967296 ≤ 600000000000000000 / 4294967296 := Nat.div_le_div_right b4
  clear ea hX b1 b3
  omega
theorem pop4 (x : Nat) : ∃ a b c d : Nat, a = popX x + popX x / 256 ∧ b = a + a / 65536 ∧ c = b + b / 4294967296 ∧ d = c % 128 ∧ c < 1152921504606846976 ∧ popX x < 1152921504606846976 ∧ a < 1152921504606846976 ∧ b < 1152921504606846976 ∧ d = cnt (fun i => x.testBit i) 0 64 := by
  have hb := octD_bd pp 8 (fun b h => pp_le b h) 8 x
  rw [octM8] at hb
  have hbd := pop_bd (popX x) _ _ _ hb rfl rfl rfl
  have hs := pps_cnt 8 x
  have key := pop_sum (pp (x % 256)) (pp (x / 256 % 256)) (pp (x / 256 / 256 % 256)) (pp (x / 256 / 256 / 256 % 256)) (pp (x / 256 / 256 / 256 / 256 % 256)) (pp (x / 256 / 256 / 256 / 256 / 256 % 256)) (pp (x / 256 / 256 / 256 / 256 / 256 / 256 % 256)) (pp (x / 256 / 256 / 256 / 256 / 256 / 256 / 256 % 256)) _ _ _
    (pp_le _ (Nat.mod_lt _ (by decide))) (pp_le _ (Nat.mod_lt _ (by decide))) (pp_le _ (Nat.mod_lt _ (by decide))) (pp_le _ (Nat.mod_lt _ (by decide))) (pp_le _ (Nat.mod_lt _ (by decide))) (pp_le _ (Nat.mod_lt _ (by decide))) (pp_le _ (Nat.mod_lt _ (by decide))) (pp_le _ (Nat.mod_lt _ (by decide))) rfl rfl rfl
  exact ⟨_, _, _, _, rfl, rfl, rfl, rfl, hbd.2.2, Nat.lt_of_le_of_lt hb (by decide), hbd.1, hbd.2.1, key.trans hs⟩

/-! ### The lowest bit -/
theorem ctz_bit {x : Nat} (h0 : x ≠ 0) (h : x < 2 ^ 64) : Lib.ctz 64 x < 64 ∧ x.testBit (Lib.ctz 64 x) = true ∧ ∀ i, i < Lib.ctz 64 x → x.testBit i = false := by
  obtain ⟨m, hm, hk⟩ := Lib.ctzFrom_spec 64 x (by omega) h
  have e : Lib.ctz 64 x = Lib.ctzFrom 64 x := by simp [Lib.ctz, h0]
  rw [e]
  generalize Lib.ctzFrom 64 x = k at *
  refine ⟨hk, ?_, fun i hi => ?_⟩
  · rw [hm, Nat.mul_comm, Nat.testBit_mul_two_pow]
    simp [Nat.testBit_zero]
  · rw [hm, Nat.mul_comm, Nat.testBit_mul_two_pow]
    simp; omega

/-! ### Where a bit is -/
/-- r is the least number from a on, ahead of e, of a bit that is c; e: there is none. -/
structure Seek (B : Nat → Bool) (c : Bool) (a e r : Nat) : Prop where
  none : ∀ i, a ≤ i → i < r → B i = !c
  here : r < e → B r = c
  le : r ≤ e
  from' : a ≤ e → a ≤ r
  past : e ≤ a → r = e
theorem Seek.same {B : Nat → Bool} {c : Bool} {a e r s : Nat} (h : Seek B c a e r) (k : Seek B c a e s) : r = s := by
  by_cases hp : e ≤ a
  · rw [h.past hp, k.past hp]
  · have h1 := h.le; have h2 := k.le; have h3 := h.from' (by omega); have h4 := k.from' (by omega)
    by_cases hl : r < s
    · have e1 := h.here (by omega)
      have e2 := k.none r (by omega) hl
      rw [e1] at e2; cases c <;> simp at e2
    · by_cases hg : s < r
      · have e1 := k.here (by omega)
        have e2 := h.none s (by omega) hg
        rw [e1] at e2; cases c <;> simp at e2
      · omega
/-- A bit that is looked for, in its word. -/
theorem seek_word {B : Nat → Bool} {c : Bool} {a e x : Nat} (hae : a < e) (hx : x = (num B (64 * (a / 64)) 64 ^^^ (if c then 0 else 18446744073709551615)) / 2 ^ (a % 64)) (h0 : x ≠ 0) : Seek B c a e (if a + Lib.ctz 64 x < e then a + Lib.ctz 64 x else e) := by
  have hbit : ∀ i, x.testBit i = (decide (a % 64 + i < 64) && (B (a + i) == c)) := by
    intro i
    rw [hx, Nat.testBit_div_two_pow, Nat.testBit_xor, num_bit, show 64 * (a / 64) + (i + a % 64) = a + i by omega, Nat.add_comm i (a % 64)]
    cases c
    · rw [if_neg (by decide), show (18446744073709551615 : Nat) = 2 ^ 64 - 1 from rfl, Nat.testBit_two_pow_sub_one]
      by_cases h : a % 64 + i < 64 <;> simp [h] <;> cases B (a + i) <;> rfl
    · simp
  have hlt : x < 2 ^ 64 := by
    apply Nat.lt_of_not_le
    intro hle
    obtain ⟨i, hi, hb⟩ := Nat.exists_ge_and_testBit_of_ge_two_pow hle
    rw [hbit] at hb
    simp at hb
    omega
  obtain ⟨hk, hone, hnone⟩ := ctz_bit h0 hlt
  rw [hbit] at hone
  simp only [Bool.and_eq_true, decide_eq_true_eq, beq_iff_eq] at hone
  have hcl : ∀ i, a ≤ i → i < a + Lib.ctz 64 x → B i = !c := by
    intro i h1 h2
    have := hnone (i - a) (by omega)
    rw [hbit, show a + (i - a) = i by omega, decide_eq_true (by omega)] at this
    cases hB : B i <;> cases c <;> simp_all
  by_cases h : a + Lib.ctz 64 x < e
  · rw [if_pos h]
    exact ⟨hcl, fun _ => hone.2, by omega, by omega, by omega⟩
  · rw [if_neg h]
    exact ⟨fun i h1 h2 => hcl i h1 (by omega), by omega, Nat.le_refl _, by omega, by omega⟩
/-- A word without it. -/
theorem seek_skip {B : Nat → Bool} {c : Bool} {a x : Nat} (hx : x = (num B (64 * (a / 64)) 64 ^^^ (if c then 0 else 18446744073709551615)) / 2 ^ (a % 64)) (h0 : x = 0) : ∀ i, a ≤ i → i < a + (64 - a % 64) → B i = !c := by
  intro i h1 h2
  have h : x.testBit (i - a) = false := by rw [h0]; simp
  rw [hx, Nat.testBit_div_two_pow, Nat.testBit_xor, num_bit, show 64 * (a / 64) + (i - a + a % 64) = i by omega, decide_eq_true (by omega)] at h
  cases c
  · rw [if_neg (by decide), show (18446744073709551615 : Nat) = 2 ^ 64 - 1 from rfl, Nat.testBit_two_pow_sub_one, decide_eq_true (by omega)] at h
    cases hB : B i <;> simp_all
  · simp at h
    simp [h]

/-! ### Runs turned over -/
def flipB (B : Nat → Bool) (a k : Nat) : Nat → Bool := fun i => if a ≤ i ∧ i < a + k then !B i else B i
def putB (B : Nat → Bool) (a k : Nat) (c : Bool) : Nat → Bool := fun i => if a ≤ i ∧ i < a + k then c else B i
theorem flipB_zero (B : Nat → Bool) (a : Nat) : flipB B a 0 = B := by
  funext i; unfold flipB; rw [if_neg (by omega)]
theorem flipB_more (B : Nat → Bool) (a k m : Nat) : flipB (flipB B a k) (a + k) m = flipB B a (k + m) := by
  funext i; unfold flipB
  by_cases h1 : a + k ≤ i ∧ i < a + k + m
  · rw [if_pos h1, if_neg (by omega), if_pos (by omega)]
  · rw [if_neg h1]
    by_cases h2 : a ≤ i ∧ i < a + k
    · rw [if_pos h2, if_pos (by omega)]
    · rw [if_neg h2, if_neg (by omega)]
theorem flip_put {B : Nat → Bool} {a k : Nat} {c : Bool} (h : ∀ i, a ≤ i → i < a + k → B i = !c) : flipB B a k = putB B a k c := by
  funext i; unfold flipB putB
  by_cases h1 : a ≤ i ∧ i < a + k
  · rw [if_pos h1, if_pos h1, h i h1.1 h1.2]; simp
  · rw [if_neg h1, if_neg h1]
/-- A piece of a word, turned over. -/
theorem num_flip {B : Nat → Bool} {a m : Nat} (h : a % 64 + m ≤ 64) : num B (64 * (a / 64)) 64 ^^^ ((2 ^ m - 1) * 2 ^ (a % 64)) = num (flipB B a m) (64 * (a / 64)) 64 := by
  apply Nat.eq_of_testBit_eq
  intro i
  rw [Nat.testBit_xor, num_bit, num_bit, Nat.testBit_mul_two_pow, Nat.testBit_two_pow_sub_one]
  unfold flipB
  by_cases hi : i < 64
  · by_cases h1 : a ≤ 64 * (a / 64) + i ∧ 64 * (a / 64) + i < a + m
    · rw [if_pos h1]
      simp [hi, show a % 64 ≤ i by omega, show i - a % 64 < m by omega]
    · rw [if_neg h1]
      by_cases h2 : a % 64 ≤ i
      · simp [hi, h2, show ¬ i - a % 64 < m by omega]
      · simp [hi, h2]
  · simp [hi]; omega
/-- The other words. -/
theorem num_flip_off {B : Nat → Bool} {a m j : Nat} (h : a % 64 + m ≤ 64) (hj : j ≠ a / 64) : num (flipB B a m) (64 * j) 64 = num B (64 * j) 64 :=
  num_congr fun i hi => by unfold flipB; rw [if_neg (by omega)]

/-! ### How many are set, run by run -/
theorem cnt_put {B : Nat → Bool} {a k n : Nat} {c : Bool} (hn : a + k ≤ n) : cnt (putB B a k c) 0 n = cnt B 0 a + (if c then k else 0) + cnt B (a + k) (n - (a + k)) := by
  have e : n = (a + k) + (n - (a + k)) := by omega
  rw [e, cnt_add, cnt_add]
  have e1 : cnt (putB B a k c) 0 a = cnt B 0 a := cnt_congr fun i hi => by unfold putB; rw [if_neg (by omega)]
  have e2 : cnt (putB B a k c) (0 + a) k = if c then k else 0 := by
    cases c
    · rw [if_neg (by decide)]; exact cnt_none fun i hi => by unfold putB; rw [if_pos (by omega)]
    · rw [if_pos rfl]; exact cnt_all fun i hi => by unfold putB; rw [if_pos (by omega)]
  have e3 : cnt (putB B a k c) (0 + (a + k)) (n - (a + k)) = cnt B (a + k) (n - (a + k)) := cnt_congr fun i hi => by unfold putB; rw [if_neg (by omega)]; rw [Nat.zero_add]
  rw [e1, e2, e3, show a + k + (n - (a + k)) - (a + k) = n - (a + k) by omega]
theorem cnt_run {B : Nat → Bool} {a k n : Nat} {c : Bool} (hn : a + k ≤ n) (h : ∀ i, a ≤ i → i < a + k → B i = c) : cnt B 0 n = cnt B 0 a + (if c then k else 0) + cnt B (a + k) (n - (a + k)) := by
  have e : putB B a k c = B := by
    funext i; unfold putB
    by_cases h1 : a ≤ i ∧ i < a + k
    · rw [if_pos h1, h i h1.1 h1.2]
    · rw [if_neg h1]
  have := cnt_put (B := B) (c := c) hn
  rwa [e] at this
theorem cnt_set {B : Nat → Bool} {a k n : Nat} (hn : a + k ≤ n) (h : ∀ i, a ≤ i → i < a + k → B i = false) : cnt (putB B a k true) 0 n = cnt B 0 n + k := by
  rw [cnt_put hn, cnt_run hn h]; simp; omega
theorem cnt_clear {B : Nat → Bool} {a k n : Nat} (hn : a + k ≤ n) (h : ∀ i, a ≤ i → i < a + k → B i = true) : cnt (putB B a k false) 0 n + k = cnt B 0 n := by
  rw [cnt_put hn, cnt_run hn h]; simp; omega
/-- How many are set ahead of the next one. -/
theorem cnt_seek {B : Nat → Bool} {a r : Nat} (hr : a ≤ r) (h : ∀ i, a ≤ i → i < r → B i = false) : cnt B 0 r = cnt B 0 a := by
  have e : r = a + (r - a) := by omega
  rw [e, cnt_add, cnt_none (k := r - a) fun i hi => h _ (by omega) (by omega), Nat.add_zero]
end Go.Proofs.YthpodknhidgedaaDoor
