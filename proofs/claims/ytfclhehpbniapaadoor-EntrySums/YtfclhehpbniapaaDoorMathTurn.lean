/- Plain arithmetic: sealed octets, and what becomes of them where bits beside each other are turned. No Go in sight. -/
import Derived.Test.YtfclhehpbniapaaDoorMathCrc
namespace Go.Proofs.YtfclhehpbniapaaDoor

/-- Are these octets sealed ones? -/
def sealedB (zs : List Nat) : Bool := decide (4 ≤ zs.length) && (numN (zs.drop (zs.length - 4)) == crcSum (zs.take (zs.length - 4)))
/-- What was sealed; none, if it wasn't. -/
def openL (zs : List Nat) : List Nat := if sealedB zs = true then zs.take (zs.length - 4) else []
theorem sealedB_short (zs : List Nat) (h : zs.length < 4) : sealedB zs = false := by
  unfold sealedB; rw [decide_eq_false (by omega)]; rfl
theorem sealedB_parts (zs ts : List Nat) (h : ts.length = 4) : sealedB (zs ++ ts) = (numN ts == crcSum zs) := by
  have e : (zs ++ ts).length - 4 = zs.length := by simp; omega
  unfold sealedB
  rw [e, List.drop_left, List.take_left, decide_eq_true (by simp; omega), Bool.true_and]
theorem openL_parts (zs ts : List Nat) (h : ts.length = 4) (hs : sealedB (zs ++ ts) = true) : openL (zs ++ ts) = zs := by
  have e : (zs ++ ts).length - 4 = zs.length := by simp; omega
  unfold openL
  rw [if_pos hs, e, List.take_left]
theorem openL_no (zs : List Nat) (hs : sealedB zs = false) : openL zs = [] := by
  unfold openL; rw [hs]; rfl
theorem sealedB_seal (zs : List Nat) (h : ∀ z ∈ zs, z < 256) : sealedB (zs ++ octN (crcSum zs)) = true := by
  rw [sealedB_parts _ _ rfl, octN_num _ (crcSum_lt zs h)]
  simp
theorem openL_seal (zs : List Nat) (h : ∀ z ∈ zs, z < 256) : openL (zs ++ octN (crcSum zs)) = zs := openL_parts _ _ rfl (sealedB_seal zs h)

theorem numN_lt (l : List Nat) (h : ∀ z ∈ l, z < 256) : numN l < 256 ^ l.length := by
  induction l with
  | nil => decide
  | cons c r ih =>
    have h1 := h c (by simp)
    have h2 := ih fun z hz => h z (by simp [hz])
    simp only [numN, List.length_cons, Nat.pow_succ]
    omega
/-- Sealed octets are those that leave one register. -/
theorem sealed_reg (zs : List Nat) (h : ∀ z ∈ zs, z < 256) (h4 : 4 ≤ zs.length) : (sealedB zs = true) ↔ crcN (8 * zs.length) (crcF ^^^ numN zs) = crcN 32 crcF := by
  have hp : ∀ z ∈ zs.take (zs.length - 4), z < 256 := fun z hz => h z (List.mem_of_mem_take hz)
  have ht : ∀ z ∈ zs.drop (zs.length - 4), z < 256 := fun z hz => h z (List.mem_of_mem_drop hz)
  have hl : (zs.drop (zs.length - 4)).length = 4 := by rw [List.length_drop]; omega
  have hn := numN_lt _ ht
  rw [hl] at hn
  have hr := crcReg_lt (zs.take (zs.length - 4)) crcF hp (by decide)
  have e : crcN (8 * zs.length) (crcF ^^^ numN zs) = crcN 32 (crcReg (zs.take (zs.length - 4)) crcF ^^^ numN (zs.drop (zs.length - 4))) := by
    rw [← crcReg_num zs crcF h]
    conv => lhs; rw [← List.take_append_drop (zs.length - 4) zs, crcReg_append]
    rw [crcReg_num _ _ ht, hl]
  rw [e]
  unfold sealedB
  rw [decide_eq_true h4, Bool.true_and, beq_iff_eq]
  have es : crcSum (zs.take (zs.length - 4)) = crcReg (zs.take (zs.length - 4)) crcF ^^^ crcF := by unfold crcSum crcAdd; rw [Nat.zero_xor]
  rw [es]
  generalize crcReg (zs.take (zs.length - 4)) crcF = r at *
  generalize numN (zs.drop (zs.length - 4)) = t at *
  constructor
  · intro ht
    rw [ht, ← Nat.xor_assoc, Nat.xor_self, Nat.zero_xor]
  · intro hx
    have h3 := crcN_inj 32 _ _ (Nat.xor_lt_two_pow (n := 32) hr (by omega)) (by decide) hx
    rw [← h3, ← Nat.xor_assoc, Nat.xor_self, Nat.zero_xor]
/-- Up to 32 bits beside each other turned: no longer sealed. -/
theorem turned_no (zs xs : List Nat) (k u : Nat) (hz : ∀ z ∈ zs, z < 256) (hx : ∀ z ∈ xs, z < 256) (hl : xs.length = zs.length) (h4 : 4 ≤ zs.length) (hs : sealedB zs = true) (hk : k ≤ 8 * zs.length) (hu : u < 4294967296) (h0 : u ≠ 0)
    (hn : numN xs = numN zs ^^^ 2 ^ k * u) : sealedB xs = false := by
  have h1 := (sealed_reg zs hz h4).1 hs
  have h2 := sealed_reg xs hx (by omega)
  cases hb : sealedB xs
  · rfl
  · exfalso
    have h3 := h2.1 hb
    rw [hl, hn, ← Nat.xor_assoc, crcN_xor, h1] at h3
    have h5 : crcN (8 * zs.length) (2 ^ k * u) = 0 := by
      have := congrArg (fun n => crcN 32 crcF ^^^ n) h3
      simp only [← Nat.xor_assoc, Nat.xor_self, Nat.zero_xor] at this
      exact this
    rw [show 8 * zs.length = k + (8 * zs.length - k) by omega, crcN_add, crcN_pow] at h5
    exact crcN_ne _ u hu h0 h5

theorem mul_xor (c a b : Nat) (i : Nat) (h : c = 2 ^ i) : c * (a ^^^ b) = c * a ^^^ c * b := by
  subst h
  have := Nat.shiftLeft_xor_distrib (a := a) (b := b) (i := i)
  simpa [Nat.shiftLeft_eq, Nat.mul_comm] using this
/-- One octet xored, in the number of all. -/
theorem numN_set (l : List Nat) (m d : Nat) (hm : m < l.length) (hl : ∀ z ∈ l, z < 256) (hd : d < 256) : numN (l.set m (l[m]?.getD 0 ^^^ d)) = numN l ^^^ 256 ^ m * d := by
  induction l generalizing m with
  | nil => simp at hm
  | cons c r ih =>
    have hc := hl c (by simp)
    have hr : ∀ z ∈ r, z < 256 := fun z hz => hl z (by simp [hz])
    cases m with
    | zero =>
      have hcd : c ^^^ d < 256 := Nat.xor_lt_two_pow (n := 8) hc hd
      simp only [List.set_cons_zero, List.getElem?_cons_zero, Option.getD_some, Nat.pow_zero, Nat.one_mul]
      rw [numN_xor _ _ hcd, numN_xor _ _ hc, Nat.xor_assoc, Nat.xor_assoc, Nat.xor_comm d]
    | succ m =>
      simp only [List.set_cons_succ, List.getElem?_cons_succ]
      rw [numN_xor _ _ hc, numN_xor _ _ hc, ih m (by simpa using hm) hr, mul_xor 256 _ _ 8 rfl, Nat.xor_assoc, Nat.pow_succ, Nat.mul_comm (256 ^ m) 256, Nat.mul_assoc]
theorem pow_split (k : Nat) : 256 ^ (k / 8) * 2 ^ (k % 8) = 2 ^ k := by
  rw [show (256 : Nat) = 2 ^ 8 by rfl, ← Nat.pow_mul, ← Nat.pow_add, Nat.div_add_mod]
/-- One bit more of a number. -/
theorem mod_step (u i : Nat) : u % 2 ^ (i + 1) = u % 2 ^ i ^^^ 2 ^ i * (u / 2 ^ i % 2) := by
  rw [← add_xor i _ _ (Nat.mod_lt _ (Nat.two_pow_pos i)), Nat.pow_succ, Nat.mod_mul]
theorem set_small (l : List Nat) (m d : Nat) (hl : ∀ z ∈ l, z < 256) (hd : d < 256) : ∀ z ∈ l.set m d, z < 256 := by
  intro z hz
  rcases List.mem_or_eq_of_mem_set hz with h | rfl
  · exact hl z h
  · exact hd
end Go.Proofs.YtfclhehpbniapaaDoor
