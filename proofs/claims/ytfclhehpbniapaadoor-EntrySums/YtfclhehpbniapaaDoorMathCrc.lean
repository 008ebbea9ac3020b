/- Plain arithmetic for layer 2 (crc): a register, its steps, sums of octets as a step of one great number. No Go in sight. -/
import Derived.WalkKit
namespace Go.Proofs.YtfclhehpbniapaaDoor

def crcP : Nat := 3988292384
def crcF : Nat := 4294967295
/-- One bit: shifted, and xored where a 1 went out. -/
def crcS (n : Nat) : Nat := n / 2 ^^^ (if n % 2 = 1 then crcP else 0)
def crcN : Nat → Nat → Nat
  | 0, n => n
  | k + 1, n => crcN k (crcS n)

theorem xor_div_two (a b : Nat) : (a ^^^ b) / 2 = a / 2 ^^^ b / 2 := by
  have := Nat.shiftRight_xor_distrib (a := a) (b := b) (i := 1)
  simpa [Nat.shiftRight_eq_div_pow] using this
theorem xor_mod_two (a b : Nat) : (a ^^^ b) % 2 = (a % 2 + b % 2) % 2 := by
  have h := Nat.xor_mod_two_pow (a := a) (b := b) (n := 1)
  rw [Nat.pow_one] at h
  rw [h]
  have ha : a % 2 = 0 ∨ a % 2 = 1 := by omega
  have hb : b % 2 = 0 ∨ b % 2 = 1 := by omega
  rcases ha with ha | ha <;> rcases hb with hb | hb <;> rw [ha, hb] <;> rfl
theorem xor4 (a b c d : Nat) : a ^^^ b ^^^ (c ^^^ d) = a ^^^ c ^^^ (b ^^^ d) := by
  rw [Nat.xor_assoc, Nat.xor_assoc, ← Nat.xor_assoc b c d, Nat.xor_comm b c, Nat.xor_assoc c b d]
theorem xor_cancel (a b : Nat) : a ^^^ b ^^^ b = a := by rw [Nat.xor_assoc, Nat.xor_self, Nat.xor_zero]

theorem crcS_zero : crcS 0 = 0 := rfl
theorem crcS_xor (a b : Nat) : crcS (a ^^^ b) = crcS a ^^^ crcS b := by
  unfold crcS
  rw [xor_div_two, xor_mod_two, xor4]
  congr 1
  have ha : a % 2 = 0 ∨ a % 2 = 1 := by omega
  have hb : b % 2 = 0 ∨ b % 2 = 1 := by omega
  rcases ha with ha | ha <;> rcases hb with hb | hb <;> simp [ha, hb]
theorem crcN_xor (k a b : Nat) : crcN k (a ^^^ b) = crcN k a ^^^ crcN k b := by
  induction k generalizing a b with
  | zero => rfl
  | succ k ih => simp only [crcN, crcS_xor, ih]
theorem crcN_zero (k : Nat) : crcN k 0 = 0 := by
  induction k with
  | zero => rfl
  | succ k ih => simp only [crcN, crcS_zero, ih]
theorem crcN_add (j k n : Nat) : crcN (j + k) n = crcN k (crcN j n) := by
  induction j generalizing n with
  | zero => simp [crcN]
  | succ j ih => rw [Nat.succ_add]; simp only [crcN, ih]
theorem crcN_succ (k n : Nat) : crcN (k + 1) n = crcS (crcN k n) := crcN_add k 1 n
theorem crcS_two (n : Nat) : crcS (2 * n) = n := by
  unfold crcS
  rw [if_neg (by omega), Nat.xor_zero]; omega
theorem crcN_pow (k n : Nat) : crcN k (2 ^ k * n) = n := by
  induction k with
  | zero => simp [crcN]
  | succ k ih =>
    rw [Nat.pow_succ, Nat.mul_comm (2 ^ k) 2, Nat.mul_assoc]
    simp only [crcN, crcS_two, ih]
theorem crcS_lt (n : Nat) (h : n < 4294967296) : crcS n < 4294967296 := by
  unfold crcS
  have h1 : n / 2 < 2 ^ 32 := by omega
  have h2 : (if n % 2 = 1 then crcP else 0) < 2 ^ 32 := by unfold crcP; split <;> decide
  exact Nat.xor_lt_two_pow h1 h2
theorem crcN_lt (k n : Nat) (h : n < 4294967296) : crcN k n < 4294967296 := by
  induction k generalizing n with
  | zero => exact h
  | succ k ih => exact ih _ (crcS_lt n h)
theorem xor_eq_zero {a b : Nat} (h : a ^^^ b = 0) : a = b := by
  have := xor_cancel a b
  rw [h, Nat.zero_xor] at this
  exact this.symm
theorem crcS_ne (n : Nat) (h : n < 4294967296) (h0 : n ≠ 0) : crcS n ≠ 0 := by
  intro e
  unfold crcS at e
  have e2 := xor_eq_zero e
  have hm : n % 2 = 0 ∨ n % 2 = 1 := by omega
  rcases hm with hm | hm
  · rw [if_neg (by omega)] at e2; omega
  · rw [if_pos hm] at e2; unfold crcP at e2; omega
theorem crcN_ne (k n : Nat) (h : n < 4294967296) (h0 : n ≠ 0) : crcN k n ≠ 0 := by
  induction k generalizing n with
  | zero => exact h0
  | succ k ih => exact ih _ (crcS_lt n h) (crcS_ne n h h0)
theorem crcN_inj (k a b : Nat) (ha : a < 4294967296) (hb : b < 4294967296) (h : crcN k a = crcN k b) : a = b := by
  by_cases e : a = b
  · exact e
  · exfalso
    refine crcN_ne k (a ^^^ b) (Nat.xor_lt_two_pow (n := 32) ha hb) (fun h0 => e (xor_eq_zero h0)) ?_
    rw [crcN_xor, h, Nat.xor_self]

/-- A number's low bits xored with the rest are the number. -/
theorem add_xor (i a b : Nat) (h : b < 2 ^ i) : b + 2 ^ i * a = b ^^^ 2 ^ i * a := by
  apply Nat.eq_of_testBit_eq
  intro j
  rw [Nat.add_comm, Nat.testBit_two_pow_mul_add _ h, Nat.testBit_xor, Nat.testBit_two_pow_mul]
  by_cases hj : j < i
  · simp [hj, Nat.not_le.2 hj]
  · have : b.testBit j = false := Nat.testBit_lt_two_pow (Nat.lt_of_lt_of_le h (Nat.pow_le_pow_right (by decide) (by omega)))
    simp [hj, this, Nat.le_of_not_lt hj]
theorem crcN_low (i n : Nat) : crcN i n = n / 2 ^ i ^^^ crcN i (n % 2 ^ i) := by
  have h : n = n % 2 ^ i ^^^ 2 ^ i * (n / 2 ^ i) := by
    rw [← add_xor i _ _ (Nat.mod_lt _ (Nat.two_pow_pos i))]
    exact (Nat.mod_add_div n (2 ^ i)).symm
  conv => lhs; rw [h]
  rw [crcN_xor, crcN_pow, Nat.xor_comm]

/-- The table of the program: what four bits xor into the rest. -/
def crcTab : List Nat := [0, 498536548, 997073096, 651767980, 1994146192, 1802195444, 1303535960, 1342533948, 3988292384, 4027552580, 3604390888, 3412177804, 2607071920, 2262029012, 2685067896, 3183342108]
def crcT (k : Nat) : Nat := crcTab.getD k 0
theorem crcT_all : ∀ k, k < 16 → crcN 4 k = crcT k := by decide +kernel
theorem crcT_lt : ∀ k, k < 16 → crcT k < 4294967296 := by decide +kernel
theorem crcN_four (n : Nat) : crcN 4 n = n / 16 ^^^ crcT (n % 16) := by
  rw [crcN_low 4 n, ← crcT_all _ (Nat.mod_lt _ (by decide))]

/-- An octet taken into a register. -/
def crcTake (u c : Nat) : Nat := crcN 8 (u ^^^ c)
theorem crcTake_lt (u c : Nat) (hu : u < 4294967296) (hc : c < 256) : crcTake u c < 4294967296 :=
  crcN_lt 8 _ (Nat.xor_lt_two_pow (n := 32) hu (by omega))
theorem crcTake_four (u c : Nat) : crcTake u c = ((u ^^^ c) / 16 ^^^ crcT ((u ^^^ c) % 16)) / 16 ^^^ crcT (((u ^^^ c) / 16 ^^^ crcT ((u ^^^ c) % 16)) % 16) := by
  unfold crcTake
  rw [show (8 : Nat) = 4 + 4 by rfl, crcN_add, crcN_four (crcN 4 _), crcN_four]
/-- One round of the reference: an octet's bit and a register's. -/
theorem ref_round (u c : Nat) : (if (u % 2 ^^^ c % 2) = 1 then u / 2 ^^^ crcP else u / 2) ^^^ c / 2 = crcS (u ^^^ c) := by
  have h : (u ^^^ c) % 2 = (u % 2 ^^^ c % 2) := by
    rw [xor_mod_two]
    have hu : u % 2 = 0 ∨ u % 2 = 1 := by omega
    have hc : c % 2 = 0 ∨ c % 2 = 1 := by omega
    rcases hu with hu | hu <;> rcases hc with hc | hc <;> rw [hu, hc] <;> rfl
  unfold crcS
  rw [xor_div_two, h]
  by_cases e : (u % 2 ^^^ c % 2) = 1
  · rw [if_pos e, if_pos e, Nat.xor_assoc, Nat.xor_comm crcP, Nat.xor_assoc]
  · rw [if_neg e, if_neg e, Nat.xor_zero]

/-- Octets taken into a register, one behind the other. -/
def crcReg : List Nat → Nat → Nat
  | [], u => u
  | c :: r, u => crcReg r (crcTake u c)
theorem crcReg_append (a b : List Nat) (u : Nat) : crcReg (a ++ b) u = crcReg b (crcReg a u) := by
  induction a generalizing u with
  | nil => rfl
  | cons c r ih => exact ih _
theorem crcReg_snoc (a : List Nat) (c u : Nat) : crcReg (a ++ [c]) u = crcTake (crcReg a u) c := crcReg_append a [c] u
theorem crcReg_lt (l : List Nat) (u : Nat) (hl : ∀ z ∈ l, z < 256) (hu : u < 4294967296) : crcReg l u < 4294967296 := by
  induction l generalizing u with
  | nil => exact hu
  | cons c r ih => exact ih _ (fun z hz => hl z (by simp [hz])) (crcTake_lt u c hu (hl c (by simp)))
/-- The number of octets, the least first. -/
def numN : List Nat → Nat
  | [] => 0
  | c :: r => c + 256 * numN r
theorem numN_xor (c : Nat) (r : List Nat) (h : c < 256) : numN (c :: r) = c ^^^ 256 * numN r := add_xor 8 _ _ h
/-- Taken one by one is taken as one number. -/
theorem crcReg_num (l : List Nat) (u : Nat) (hl : ∀ z ∈ l, z < 256) : crcReg l u = crcN (8 * l.length) (u ^^^ numN l) := by
  induction l generalizing u with
  | nil => simp [crcReg, numN, crcN]
  | cons c r ih =>
    have hc := hl c (by simp)
    simp only [crcReg, List.length_cons]
    rw [ih _ fun z hz => hl z (by simp [hz]), numN_xor c r hc, show 8 * (r.length + 1) = 8 + 8 * r.length by omega, crcN_add, ← Nat.xor_assoc, crcN_xor 8 (u ^^^ c), crcTake]
    have := crcN_pow 8 (numN r)
    rw [show 2 ^ 8 * numN r = 256 * numN r by rfl] at this
    rw [this]

/-- A sum: the register behind all octets, turned over. -/
def crcAdd (s : Nat) (l : List Nat) : Nat := crcReg l (s ^^^ crcF) ^^^ crcF
def crcSum (l : List Nat) : Nat := crcAdd 0 l
theorem crcAdd_lt (s : Nat) (l : List Nat) (hl : ∀ z ∈ l, z < 256) (hs : s < 4294967296) : crcAdd s l < 4294967296 :=
  Nat.xor_lt_two_pow (n := 32) (crcReg_lt l _ hl (Nat.xor_lt_two_pow (n := 32) hs (by decide))) (by decide)
theorem crcSum_lt (l : List Nat) (hl : ∀ z ∈ l, z < 256) : crcSum l < 4294967296 := crcAdd_lt 0 l hl (by decide)
theorem crcAdd_nil (s : Nat) : crcAdd s [] = s := xor_cancel s crcF
theorem crcAdd_append (s : Nat) (a b : List Nat) : crcAdd s (a ++ b) = crcAdd (crcAdd s a) b := by
  unfold crcAdd
  rw [crcReg_append, xor_cancel]
theorem xor_F (n : Nat) (h : n < 4294967296) : n ^^^ crcF = 4294967295 - n := by
  have e : (n ^^^ crcF) + n = 4294967295 := by
    have h2 : (BitVec.ofNat 32 n ^^^ BitVec.allOnes 32) = ~~~ BitVec.ofNat 32 n := BitVec.xor_allOnes
    have h3 := congrArg BitVec.toNat h2
    rw [BitVec.toNat_xor, BitVec.toNat_not, BitVec.toNat_ofNat, BitVec.toNat_allOnes, Nat.mod_eq_of_lt (by simpa using h)] at h3
    have : n ^^^ crcF = 2 ^ 32 - 1 - n := h3
    rw [this]; omega
  omega
/-- Four octets of a number, the least first. -/
def octN (n : Nat) : List Nat := [n % 256, n / 256 % 256, n / 65536 % 256, n / 16777216 % 256]
theorem octN_small (n : Nat) : ∀ z ∈ octN n, z < 256 := by
  intro z hz
  simp only [octN, List.mem_cons, List.not_mem_nil, or_false] at hz
  omega
theorem octN_num (n : Nat) (h : n < 4294967296) : numN (octN n) = n := by
  simp only [octN, numN]; omega
theorem numN_octN (a b c d : Nat) (ha : a < 256) (hb : b < 256) (hc : c < 256) (hd : d < 256) : octN (numN [a, b, c, d]) = [a, b, c, d] := by
  simp only [octN, numN, List.cons.injEq, and_true]
  omega

/-- Octets of two texts, xored. -/
def xorL (a b : List Nat) : List Nat := List.zipWith (fun x y => x ^^^ y) a b
theorem xorL_length (a b : List Nat) (h : b.length = a.length) : (xorL a b).length = a.length := by simp [xorL, h]
theorem xorL_small (a b : List Nat) (ha : ∀ z ∈ a, z < 256) (hb : ∀ z ∈ b, z < 256) : ∀ z ∈ xorL a b, z < 256 := by
  intro z hz
  obtain ⟨i, hi, rfl⟩ := List.getElem_of_mem hz
  simp only [xorL, List.getElem_zipWith]
  simp [xorL] at hi
  exact Nat.xor_lt_two_pow (n := 8) (ha _ (List.getElem_mem _)) (hb _ (List.getElem_mem _))
theorem numN_xorL (a b : List Nat) (h : b.length = a.length) (ha : ∀ z ∈ a, z < 256) (hb : ∀ z ∈ b, z < 256) : numN (xorL a b) = numN a ^^^ numN b := by
  induction a generalizing b with
  | nil =>
    obtain rfl : b = [] := List.eq_nil_of_length_eq_zero (by simpa using h)
    rfl
  | cons x r ih =>
    match b, h, hb with
    | y :: s, h, hb =>
      have e : xorL (x :: r) (y :: s) = (x ^^^ y) :: xorL r s := rfl
      have hx := ha x (by simp)
      have hy := hb y (by simp)
      have hxy : x ^^^ y < 256 := Nat.xor_lt_two_pow (n := 8) hx hy
      rw [e, numN_xor _ _ hxy, numN_xor _ _ hx, numN_xor _ _ hy, ih s (by simpa using h) (fun z hz => ha z (by simp [hz])) (fun z hz => hb z (by simp [hz]))]
      rw [show 256 * (numN r ^^^ numN s) = 256 * numN r ^^^ 256 * numN s from ?_, xor4]
      have := Nat.shiftLeft_xor_distrib (a := numN r) (b := numN s) (i := 8)
      simpa [Nat.shiftLeft_eq, Nat.mul_comm] using this
theorem crcSum_num (l : List Nat) (h : ∀ z ∈ l, z < 256) : crcSum l = crcN (8 * l.length) (crcF ^^^ numN l) ^^^ crcF := by
  unfold crcSum crcAdd
  rw [crcReg_num _ _ h, Nat.zero_xor]
theorem crcSum_xor3 (a b c : List Nat) (hb : b.length = a.length) (hc : c.length = a.length) (sa : ∀ z ∈ a, z < 256) (sb : ∀ z ∈ b, z < 256) (sc : ∀ z ∈ c, z < 256) :
    crcSum (xorL (xorL a b) c) = crcSum a ^^^ crcSum b ^^^ crcSum c := by
  have l1 := xorL_length a b hb
  have s1 := xorL_small a b sa sb
  rw [crcSum_num _ (xorL_small _ c s1 sc), crcSum_num a sa, crcSum_num b sb, crcSum_num c sc, xorL_length _ c (by rw [l1, hc]), l1, hb, hc, numN_xorL _ c (by rw [l1, hc]) s1 sc, numN_xorL a b hb sa sb]
  generalize 8 * a.length = k
  rw [xor4 (crcN k (crcF ^^^ numN a)), Nat.xor_self, Nat.xor_zero, ← crcN_xor, ← Nat.xor_assoc (crcN k _) (crcN k _) crcF, ← crcN_xor]
  congr 2
  rw [xor4 crcF (numN a), Nat.xor_self, Nat.zero_xor, Nat.xor_comm (numN a ^^^ numN b) (crcF ^^^ numN c), Nat.xor_assoc crcF, Nat.xor_comm (numN c)]
  done
end Go.Proofs.YtfclhehpbniapaaDoor
