/- A part of a transaction in plain numbers: when it is right, its sector, what a sector tells; a transaction cut and joined. No Go in sight. -/
import Derived.Test.YthhdkadjlddmkaaDoorSuper5
import Derived.Test.YthhdkadjlddmkaaDoorOctCopy
namespace Go.Proofs.YthhdkadjlddmkaaDoor
open Go.RowKit
set_option linter.unusedVariables false

structure Part where
  foot : Bool
  epoch : Int
  number : Int
  index : Int
  data : List Nat
theorem Part.ext {a b : Part} (h1 : a.foot = b.foot) (h2 : a.epoch = b.epoch) (h3 : a.number = b.number) (h4 : a.index = b.index) (h5 : a.data = b.data) : a = b := by
  cases a; cases b; simp only at h1 h2 h3 h4 h5; subst h1 h2 h3 h4 h5; rfl
def Part.zero : Part := ⟨false, 0, 0, 0, []⟩
/-- May it be put? -/
def okP (p : Part) : Bool := btw p.epoch 1 2147483648 && (btw p.number 0 2147483648 && (btw p.index 0 65535 && decide (p.data.length ≤ 112)))
structure Part.Right (p : Part) : Prop where
  epoch : 1 ≤ p.epoch ∧ p.epoch ≤ 2147483648
  number : 0 ≤ p.number ∧ p.number ≤ 2147483648
  index : 0 ≤ p.index ∧ p.index ≤ 65535
  data : p.data.length ≤ 112
theorem okP_right {p : Part} : okP p = true ↔ p.Right := by
  unfold okP btw
  simp only [Bool.and_eq_true, decide_eq_true_eq]
  exact ⟨fun ⟨a, b, c, d⟩ => ⟨a, b, c, d⟩, fun ⟨a, b, c, d⟩ => ⟨a, b, c, d⟩⟩

def headOct (f : Bool) : Nat := if f = true then 70 else 80
def pre6 (p : Part) : List Nat := [headOct p.foot] ++ (octZ p.epoch 4 ++ (octZ p.number 4 ++ (octZ p.index 2 ++ octZ p.data.length 1)))
/-- What is sealed. -/
def body6 (p : Part) : List Nat := pre6 p ++ (p.data ++ zl (112 - p.data.length))
/-- Its sector. -/
def sect6 (p : Part) : List Nat := body6 p ++ octN (crcSum (body6 p))
theorem pre6_length (p : Part) : (pre6 p).length = 12 := by simp [pre6, octZ_length]
theorem body6_length (p : Part) (h : p.data.length ≤ 112) : (body6 p).length = 124 := by simp [body6, pre6_length, zl_length]; omega
theorem sect6_length (p : Part) (h : p.data.length ≤ 112) : (sect6 p).length = 128 := by rw [sect6, List.length_append, body6_length p h]; rfl
theorem app_small {x y : List Nat} (hx : ∀ z ∈ x, z < 256) (hy : ∀ z ∈ y, z < 256) : ∀ z ∈ x ++ y, z < 256 := fun z hz => by
  rcases List.mem_append.1 hz with h | h
  · exact hx z h
  · exact hy z h
theorem pre6_small (p : Part) : ∀ z ∈ pre6 p, z < 256 :=
  app_small (fun z h => by rw [List.mem_singleton.1 h]; unfold headOct; split <;> decide) (app_small (octZ_small _ _) (app_small (octZ_small _ _) (app_small (octZ_small _ _) (octZ_small _ _))))
theorem body6_small (p : Part) (h : ∀ z ∈ p.data, z < 256) : ∀ z ∈ body6 p, z < 256 := app_small (pre6_small p) (app_small h (zl_small _))
theorem sect6_small (p : Part) (h : ∀ z ∈ p.data, z < 256) : ∀ z ∈ sect6 p, z < 256 := app_small (body6_small p h) (octN_small _)

/-! ### What octets tell -/
def readP (zs : List Nat) : Part := ⟨decide (zs[0]?.getD 0 = 70), getO ((zs.drop 1).take 4), getO ((zs.drop 5).take 4), getO ((zs.drop 9).take 2), (zs.drop 12).take (zs[11]?.getD 0)⟩
def getB (zs : List Nat) : Bool := decide (zs.length = 128) && (decide (zs[11]?.getD 0 ≤ 112) && (okP (readP zs) && decide (sect6 (readP zs) = zs)))
def getP (zs : List Nat) : Option Part := if getB zs = true then some (readP zs) else none
theorem getP_some {zs : List Nat} {p : Part} (h : getP zs = some p) : okP p = true ∧ sect6 p = zs ∧ p = readP zs ∧ zs.length = 128 := by
  unfold getP getB at h
  split at h
  · rename_i hb
    simp only [Bool.and_eq_true, decide_eq_true_eq] at hb
    obtain rfl := Option.some.inj h
    exact ⟨hb.2.2.1, hb.2.2.2, rfl, hb.1⟩
  · cases h
theorem readP_small {zs : List Nat} (h : ∀ z ∈ zs, z < 256) : ∀ z ∈ (readP zs).data, z < 256 := fun z hz => h z (List.mem_of_mem_drop (List.mem_of_mem_take hz))
theorem getO_octZ2 (n : Int) (h1 : 0 ≤ n) (h2 : n ≤ 65535) : getO (octZ n 2) = n := by
  rw [getO_octZ n 2 (by decide), show (2 : Int) ^ (8 * 2) = 65536 by rfl]
  unfold wrap64; omega
theorem octZ_one (n : Nat) (h : n < 256) : octZ (n : Int) 1 = [n] := by
  unfold octZ octL octet
  simp [List.range_succ]
  omega
theorem sect6_form (p : Part) (h : p.data.length ≤ 112) : ∃ R, sect6 p = [headOct p.foot] ++ (octZ p.epoch 4 ++ (octZ p.number 4 ++ (octZ p.index 2 ++ ([p.data.length] ++ (p.data ++ R))))) := by
  refine ⟨zl (112 - p.data.length) ++ octN (crcSum (body6 p)), ?_⟩
  unfold sect6
  conv => lhs; rw [show body6 p ++ octN (crcSum (body6 p)) = pre6 p ++ (p.data ++ zl (112 - p.data.length)) ++ octN (crcSum (body6 p)) from rfl]
  unfold pre6
  rw [octZ_one _ (by omega)]
  simp only [List.append_assoc]
theorem readP_sect (p : Part) (hr : okP p = true) : readP (sect6 p) = p := by
  obtain ⟨he, hn, hi, hd⟩ := okP_right.1 hr
  obtain ⟨R, hR⟩ := sect6_form p hd
  have l1 := octZ_length p.epoch 4
  have l2 := octZ_length p.number 4
  have l3 := octZ_length p.index 2
  have e0 : (sect6 p)[0]? = some (headOct p.foot) := by rw [hR]; rfl
  have e1 : ((sect6 p).drop 1).take 4 = octZ p.epoch 4 := by rw [hR]; exact take_drop_mid [headOct p.foot] _ _ 1 4 rfl l1
  have e2 : ((sect6 p).drop 5).take 4 = octZ p.number 4 := by rw [hR, ← List.append_assoc]; exact take_drop_mid _ _ _ 5 4 (by simp [l1]) l2
  have e3 : ((sect6 p).drop 9).take 2 = octZ p.index 2 := by rw [hR, ← List.append_assoc, ← List.append_assoc]; exact take_drop_mid _ _ _ 9 2 (by simp [l1, l2]) l3
  have e4 : ((sect6 p).drop 11).take 1 = [p.data.length] := by rw [hR, ← List.append_assoc, ← List.append_assoc, ← List.append_assoc]; exact take_drop_mid _ _ _ 11 1 (by simp [l1, l2, l3]) rfl
  have e5 : ((sect6 p).drop 12).take p.data.length = p.data := by rw [hR, ← List.append_assoc, ← List.append_assoc, ← List.append_assoc, ← List.append_assoc]; exact take_drop_mid _ _ _ 12 _ (by simp [l1, l2, l3]) rfl
  have e6 : (sect6 p)[11]? = some p.data.length := by
    have := congrArg (fun l => l[0]?) e4
    simpa [List.getElem?_take, List.getElem?_drop] using this
  apply Part.ext <;> simp only [readP]
  · rw [e0]; cases p.foot <;> rfl
  · rw [e1]; exact getO_octZ4 _ (by omega) (by omega)
  · rw [e2]; exact getO_octZ4 _ (by omega) (by omega)
  · rw [e3]; exact getO_octZ2 _ (by omega) (by omega)
  · rw [e6]; exact e5
theorem sect6_eleven (p : Part) (h : p.data.length ≤ 112) : (sect6 p)[11]?.getD 0 = p.data.length := by
  obtain ⟨R, hR⟩ := sect6_form p h
  have e4 : ((sect6 p).drop 11).take 1 = [p.data.length] := by rw [hR, ← List.append_assoc, ← List.append_assoc, ← List.append_assoc]; exact take_drop_mid _ _ _ 11 1 (by simp [octZ_length]) rfl
  have := congrArg (fun l => l[0]?) e4
  rw [show (sect6 p)[11]? = some p.data.length by simpa [List.getElem?_take, List.getElem?_drop] using this]
  rfl
theorem getP_sect (p : Part) (hr : okP p = true) : getP (sect6 p) = some p := by
  have hd := (okP_right.1 hr).data
  unfold getP getB
  rw [readP_sect p hr, hr, sect6_eleven p hd, decide_eq_true (sect6_length p hd), decide_eq_true hd, decide_eq_true rfl]; rfl

/-! ### One octet turned -/
theorem turned6 (p : Part) (hr : okP p = true) (hs : ∀ z ∈ p.data, z < 256) (k d : Nat) (hk : k < 128) (hd : d < 256) (hn : d ≠ (sect6 p)[k]?.getD 0) : getP ((sect6 p).set k d) = none := by
  have hl := sect6_length p (okP_right.1 hr).data
  cases h : getP ((sect6 p).set k d) with
  | none => rfl
  | some t =>
    exfalso
    obtain ⟨_, h2, h3, _⟩ := getP_some h
    have hz := sect6_small p hs
    have hts : ∀ z ∈ t.data, z < 256 := by rw [h3]; exact readP_small (set_small _ _ _ hz hd)
    have hs' := sealedB_seal (body6 p) (body6_small p hs)
    have ht := sealedB_seal (body6 t) (body6_small t hts)
    have hx : (sect6 p)[k]?.getD 0 < 256 := by
      rw [List.getElem?_eq_getElem (by rw [hl]; exact hk)]
      exact hz _ (List.getElem_mem _)
    have hnum := numN_set (sect6 p) k ((sect6 p)[k]?.getD 0 ^^^ d) (by rw [hl]; exact hk) hz (Nat.xor_lt_two_pow (n := 8) hx hd)
    rw [← Nat.xor_assoc, Nat.xor_self, Nat.zero_xor, show (256 : Nat) ^ k = 2 ^ (8 * k) by rw [Nat.pow_mul]] at hnum
    have hno := turned_no (sect6 p) ((sect6 p).set k d) (8 * k) ((sect6 p)[k]?.getD 0 ^^^ d) hz (set_small _ _ _ hz hd) (by simp) (by rw [hl]; decide) hs' (by rw [hl]; omega)
      (Nat.lt_of_lt_of_le (Nat.xor_lt_two_pow (n := 8) hx hd) (by decide)) (fun e => hn (xor_eq_zero e).symm) hnum
    rw [← h2] at hno
    rw [show sealedB (sect6 t) = true from ht] at hno
    cases hno
end Go.Proofs.YthhdkadjlddmkaaDoor
