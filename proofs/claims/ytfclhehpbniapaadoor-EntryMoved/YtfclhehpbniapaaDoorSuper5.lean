/- A superblock in plain numbers: when it is right, its sector, what a sector tells, the newest of two, the top. No Go in sight but the values. -/
import Derived.Test.YtfclhehpbniapaaDoorWalkWriting4
import Derived.Test.YtfclhehpbniapaaDoorWalkText4
import Derived.Test.YtfclhehpbniapaaDoorMathTurn
namespace Go.Proofs.YtfclhehpbniapaaDoor
open Go.RowKit
set_option linter.unusedVariables false

structure Sup where
  gen : Int
  journal : Int
  area : Int
  which : Int
  len : Int
  sum : Int
  epoch : Int
  start : Int
theorem Sup.ext {a b : Sup} (h1 : a.gen = b.gen) (h2 : a.journal = b.journal) (h3 : a.area = b.area) (h4 : a.which = b.which) (h5 : a.len = b.len) (h6 : a.sum = b.sum) (h7 : a.epoch = b.epoch) (h8 : a.start = b.start) : a = b := by
  cases a; cases b; simp only at h1 h2 h3 h4 h5 h6 h7 h8; subst h1 h2 h3 h4 h5 h6 h7 h8; rfl
/-- Its fields' kinds bear its numbers. -/
structure Sup.Fits (s : Sup) : Prop where
  gen : -9223372036854775808 ≤ s.gen ∧ s.gen ≤ 9223372036854775807
  journal : -9223372036854775808 ≤ s.journal ∧ s.journal ≤ 9223372036854775807
  area : -9223372036854775808 ≤ s.area ∧ s.area ≤ 9223372036854775807
  which : -9223372036854775808 ≤ s.which ∧ s.which ≤ 9223372036854775807
  len : -9223372036854775808 ≤ s.len ∧ s.len ≤ 9223372036854775807
  sum : 0 ≤ s.sum ∧ s.sum ≤ 4294967295
  epoch : -9223372036854775808 ≤ s.epoch ∧ s.epoch ≤ 9223372036854775807
  start : -9223372036854775808 ≤ s.start ∧ s.start ≤ 9223372036854775807
def Sup.zero : Sup := ⟨0, 0, 0, 0, 0, 0, 0, 0⟩
abbrev sval (s : Sup) : Value := .agg #[.int .i64 s.gen, .int .i64 s.journal, .int .i64 s.area, .int .i64 s.which, .int .i64 s.len, .int .u32 s.sum, .int .i64 s.epoch, .int .i64 s.start]

def btw (n l m : Int) : Bool := decide (l ≤ n ∧ n ≤ m)
/-- Is it right? -/
def okS (s : Sup) : Bool := btw s.gen 1 281474976710656 && (btw s.journal 4 4096 && (btw s.area 1 4096 && (btw s.which 0 1 && (btw s.len 0 (128 * s.area) && (btw s.epoch 1 2147483648 && btw s.start 0 (s.journal - 1))))))
structure Sup.Right (s : Sup) : Prop where
  gen : 1 ≤ s.gen ∧ s.gen ≤ 281474976710656
  journal : 4 ≤ s.journal ∧ s.journal ≤ 4096
  area : 1 ≤ s.area ∧ s.area ≤ 4096
  which : 0 ≤ s.which ∧ s.which ≤ 1
  len : 0 ≤ s.len ∧ s.len ≤ 128 * s.area
  epoch : 1 ≤ s.epoch ∧ s.epoch ≤ 2147483648
  start : 0 ≤ s.start ∧ s.start ≤ s.journal - 1
theorem okS_right {s : Sup} : okS s = true ↔ s.Right := by
  unfold okS btw
  simp only [Bool.and_eq_true, decide_eq_true_eq]
  exact ⟨fun ⟨a, b, c, d, e, f, g⟩ => ⟨a, b, c, d, e, f, g⟩, fun ⟨a, b, c, d, e, f, g⟩ => ⟨a, b, c, d, e, f, g⟩⟩

def numsS (s : Sup) : List Int := [s.journal, s.area, s.which, s.len, s.sum, s.epoch, s.start]
def fieldsN (s : Sup) : List Nat := octZ s.gen 8 ++ (numsS s).flatMap fun n => octZ n 4
/-- What is sealed. -/
def body (s : Sup) : List Nat := [77, 79, 84, 72] ++ (fieldsN s ++ (List.replicate 76 0 ++ octZ s.gen 8))
/-- Its sector. -/
def sect (s : Sup) : List Nat := body s ++ octN (crcSum (body s))
theorem fieldsN_length (s : Sup) : (fieldsN s).length = 36 := by simp [fieldsN, numsS, octZ_length]
theorem body_length (s : Sup) : (body s).length = 124 := by simp [body, fieldsN_length, octZ_length]
theorem sect_length (s : Sup) : (sect s).length = 128 := by rw [sect, List.length_append, body_length]; rfl
theorem fieldsN_small (s : Sup) : ∀ z ∈ fieldsN s, z < 256 := by
  intro z hz
  rcases List.mem_append.1 hz with h | h
  · exact octZ_small _ _ z h
  · rw [List.mem_flatMap] at h
    obtain ⟨n, _, h⟩ := h
    exact octZ_small _ _ z h
theorem body_small (s : Sup) : ∀ z ∈ body s, z < 256 := by
  intro z hz
  rcases List.mem_append.1 hz with h | h
  · simp at h; omega
  · rcases List.mem_append.1 h with h | h
    · exact fieldsN_small s z h
    · rcases List.mem_append.1 h with h | h
      · rw [List.eq_of_mem_replicate h]; decide
      · exact octZ_small _ _ z h
theorem sect_small (s : Sup) : ∀ z ∈ sect s, z < 256 := by
  intro z hz
  rcases List.mem_append.1 hz with h | h
  · exact body_small s z h
  · exact octN_small _ z h

/-! ### What octets tell -/
def genAt (zs : List Nat) (k : Nat) : Int := getO ((zs.drop k).take 8)
def numAt (zs : List Nat) (k : Nat) : Int := getO ((zs.drop k).take 4)
def readS (zs : List Nat) : Sup := ⟨genAt zs 4, numAt zs 12, numAt zs 16, numAt zs 20, numAt zs 24, numAt zs 28, numAt zs 32, numAt zs 36⟩
theorem small_part {zs : List Nat} (h : ∀ z ∈ zs, z < 256) (a b : Nat) : ∀ z ∈ (zs.drop a).take b, z < 256 := fun z hz => h z (List.mem_of_mem_drop (List.mem_of_mem_take hz))
theorem getO_range (zs : List Nat) : -9223372036854775808 ≤ getO zs ∧ getO zs ≤ 9223372036854775807 := by
  unfold getO getI wrap64; omega
theorem getO_four (zs : List Nat) (h : ∀ z ∈ zs, z < 256) (hl : zs.length ≤ 4) : 0 ≤ getO zs ∧ getO zs ≤ 4294967295 := by
  have h1 := getL_lt zs h
  have h2 : (256 : Nat) ^ zs.length ≤ 4294967296 := by
    have : zs.length = 0 ∨ zs.length = 1 ∨ zs.length = 2 ∨ zs.length = 3 ∨ zs.length = 4 := by omega
    rcases this with e | e | e | e | e <;> rw [e] <;> decide
  unfold getO getI
  rw [List.take_of_length_le (by rw [List.length_map]; omega), getN_getL]
  unfold wrap64
  omega
theorem genAt_range (zs : List Nat) (k : Nat) : -9223372036854775808 ≤ genAt zs k ∧ genAt zs k ≤ 9223372036854775807 := getO_range _
theorem numAt_range {zs : List Nat} (h : ∀ z ∈ zs, z < 256) (k : Nat) : 0 ≤ numAt zs k ∧ numAt zs k ≤ 4294967295 := getO_four _ (small_part h _ _) (by rw [List.length_take]; omega)
theorem sgn_full (n : Int) (h1 : -9223372036854775808 ≤ n) (h2 : n ≤ 9223372036854775807) : sgnI n 64 = n := by
  unfold sgnI; rw [show (2 : Int) ^ 64 = 18446744073709551616 by rfl]; split <;> omega
theorem readS_fits {zs : List Nat} (h : ∀ z ∈ zs, z < 256) : (readS zs).Fits := by
  have a := numAt_range h 12
  have b := numAt_range h 16
  have c := numAt_range h 20
  have d := numAt_range h 24
  have e := numAt_range h 28
  have f := numAt_range h 32
  have g := numAt_range h 36
  have i := genAt_range zs 4
  constructor <;> simp only [readS] <;> omega

/-- The superblock whose sector it is. -/
def toldB (zs : List Nat) : Bool := okS (readS zs) && decide (sect (readS zs) = zs)
def toldS (zs : List Nat) : Option Sup := if toldB zs = true then some (readS zs) else none
theorem toldS_some {zs : List Nat} {s : Sup} (h : toldS zs = some s) : okS s = true ∧ sect s = zs ∧ s = readS zs := by
  unfold toldS toldB at h
  split at h
  · rename_i hb
    simp only [Bool.and_eq_true, decide_eq_true_eq] at hb
    obtain rfl := Option.some.inj h
    exact ⟨hb.1, hb.2, rfl⟩
  · cases h

/-! ### There and back -/
theorem getN_octL5 (n : Int) (k : Nat) : getN (octL n k) = n % 2 ^ (8 * k) := by
  induction k with
  | zero => simp [octL, getN]
  | succ k ih =>
    rw [octL_succ, getN_snoc, ih, octL_length]
    unfold octet
    have hp := two_pow_pos (8 * k)
    have e : (2 : Int) ^ (8 * (k + 1)) = 2 ^ (8 * k) * 256 := by
      rw [show (256 : Int) = 2 ^ 8 by rfl, ← Int.pow_add, show 8 * k + 8 = 8 * (k + 1) by omega]
    rw [e]
    generalize (2 : Int) ^ (8 * k) = m at *
    have e1 := Int.mul_ediv_add_emod n m
    have r0 := Int.emod_nonneg n (Int.ne_of_gt hp)
    have r1 := Int.emod_lt_of_pos n hp
    have q := Int.mul_ediv_add_emod (n / m) 256
    have hn : n = (n % m + m * (n / m % 256)) + m * 256 * (n / m / 256) := by
      have : m * (n / m) = m * (256 * (n / m / 256) + n / m % 256) := by rw [q]
      rw [Int.mul_add, ← Int.mul_assoc] at this
      omega
    have b0 : 0 ≤ n / m % 256 ∧ n / m % 256 ≤ 255 := by omega
    have h5 : m * (n / m % 256) ≤ m * 255 := Int.mul_le_mul_of_nonneg_left b0.2 (Int.le_of_lt hp)
    have h6 : 0 ≤ m * (n / m % 256) := Int.mul_nonneg (Int.le_of_lt hp) b0.1
    have h3 : (n % m + m * (n / m % 256) + m * 256 * (n / m / 256)) % (m * 256) = n % m + m * (n / m % 256) := by
      rw [Int.add_mul_emod_self_left]
      exact Int.emod_eq_of_lt (by omega) (by omega)
    rw [← hn] at h3
    exact h3.symm
theorem octZ_ints5 (n : Int) (k : Nat) : (octZ n k).map Int.ofNat = octL n k := by
  unfold octZ octL
  rw [List.map_map, List.map_map]
  apply List.map_congr_left
  intro i _
  have := octet_bd n i
  simp only [Function.comp, Int.ofNat_eq_natCast]
  omega
theorem getO_octZ (n : Int) (k : Nat) (hk : k ≤ 8) : getO (octZ n k) = wrap64 (n % 2 ^ (8 * k)) := by
  unfold getO getI
  rw [octZ_ints5, List.take_of_length_le (by rw [octL_length]; omega), getN_octL5]
theorem getO_octZ8 (n : Int) (h1 : -9223372036854775808 ≤ n) (h2 : n ≤ 9223372036854775807) : getO (octZ n 8) = n := by
  rw [getO_octZ n 8 (by decide), show (2 : Int) ^ (8 * 8) = 18446744073709551616 by rfl]
  unfold wrap64; omega
theorem getO_octZ4 (n : Int) (h1 : 0 ≤ n) (h2 : n ≤ 4294967295) : getO (octZ n 4) = n := by
  rw [getO_octZ n 4 (by decide), show (2 : Int) ^ (8 * 4) = 4294967296 by rfl]
  unfold wrap64; omega
theorem octZ4_list (n : Int) : ∃ a b c d, octZ n 4 = [a, b, c, d] := ⟨_, _, _, _, by simp [octZ, octL, List.range_succ]; exact ⟨rfl, rfl, rfl, rfl⟩⟩
theorem octZ8_list (n : Int) : ∃ a b c d e f g h, octZ n 8 = [a, b, c, d, e, f, g, h] := ⟨_, _, _, _, _, _, _, _, by simp [octZ, octL, List.range_succ]; exact ⟨rfl, rfl, rfl, rfl, rfl, rfl, rfl, rfl⟩⟩
theorem take_drop_mid {α : Type} (A B C : List α) (a b : Nat) (ha : A.length = a) (hb : B.length = b) : ((A ++ (B ++ C)).drop a).take b = B := by
  subst ha; subst hb; simp
/-- Each field in its place, whatever stands behind what is sealed. -/
theorem body_parts (s : Sup) (ts : List Nat) : ((body s ++ ts).drop 4).take 8 = octZ s.gen 8 ∧ ((body s ++ ts).drop 12).take 4 = octZ s.journal 4 ∧ ((body s ++ ts).drop 16).take 4 = octZ s.area 4 ∧ ((body s ++ ts).drop 20).take 4 = octZ s.which 4 ∧
    ((body s ++ ts).drop 24).take 4 = octZ s.len 4 ∧ ((body s ++ ts).drop 28).take 4 = octZ s.sum 4 ∧ ((body s ++ ts).drop 32).take 4 = octZ s.epoch 4 ∧ ((body s ++ ts).drop 36).take 4 = octZ s.start 4 ∧ ((body s ++ ts).drop 116).take 8 = octZ s.gen 8 := by
  have e1 := octZ_length s.gen 8
  have e2 := octZ_length s.journal 4
  have e3 := octZ_length s.area 4
  have e4 := octZ_length s.which 4
  have e5 := octZ_length s.len 4
  have e6 := octZ_length s.sum 4
  have e7 := octZ_length s.epoch 4
  have e8 := octZ_length s.start 4
  unfold body fieldsN numsS
  simp only [List.flatMap_cons, List.flatMap_nil, List.append_nil, List.append_assoc]
  generalize octZ s.gen 8 = G at *
  generalize octZ s.journal 4 = J at *
  generalize octZ s.area 4 = A at *
  generalize octZ s.which 4 = W at *
  generalize octZ s.len 4 = L at *
  generalize octZ s.sum 4 = U at *
  generalize octZ s.epoch 4 = E at *
  generalize octZ s.start 4 = T at *
  refine ⟨?_, ?_, ?_, ?_, ?_, ?_, ?_, ?_, ?_⟩
  · exact take_drop_mid [77, 79, 84, 72] G _ 4 8 rfl e1
  · rw [← List.append_assoc [77, 79, 84, 72]]; exact take_drop_mid _ J _ 12 4 (by simp; omega) e2
  · rw [← List.append_assoc [77, 79, 84, 72], ← List.append_assoc _ J]; exact take_drop_mid _ A _ 16 4 (by simp; omega) e3
  · rw [← List.append_assoc [77, 79, 84, 72], ← List.append_assoc _ J, ← List.append_assoc _ A]; exact take_drop_mid _ W _ 20 4 (by simp; omega) e4
  · rw [← List.append_assoc [77, 79, 84, 72], ← List.append_assoc _ J, ← List.append_assoc _ A, ← List.append_assoc _ W]; exact take_drop_mid _ L _ 24 4 (by simp; omega) e5
  · rw [← List.append_assoc [77, 79, 84, 72], ← List.append_assoc _ J, ← List.append_assoc _ A, ← List.append_assoc _ W, ← List.append_assoc _ L]; exact take_drop_mid _ U _ 28 4 (by simp; omega) e6
  · rw [← List.append_assoc [77, 79, 84, 72], ← List.append_assoc _ J, ← List.append_assoc _ A, ← List.append_assoc _ W, ← List.append_assoc _ L, ← List.append_assoc _ U]; exact take_drop_mid _ E _ 32 4 (by simp; omega) e7
  · rw [← List.append_assoc [77, 79, 84, 72], ← List.append_assoc _ J, ← List.append_assoc _ A, ← List.append_assoc _ W, ← List.append_assoc _ L, ← List.append_assoc _ U, ← List.append_assoc _ E]; exact take_drop_mid _ T _ 36 4 (by simp; omega) e8
  · rw [← List.append_assoc [77, 79, 84, 72], ← List.append_assoc _ J, ← List.append_assoc _ A, ← List.append_assoc _ W, ← List.append_assoc _ L, ← List.append_assoc _ U, ← List.append_assoc _ E, ← List.append_assoc _ T, ← List.append_assoc _ (List.replicate 76 0)]; exact take_drop_mid _ G _ 116 8 (by simp; omega) e1
theorem readS_body (s : Sup) (ts : List Nat) (hf : s.Fits) (hr : okS s = true) : readS (body s ++ ts) = s := by
  obtain ⟨h1, h2, h3, h4, h5, h6, h7, h8, _⟩ := body_parts s ts
  have hR := okS_right.1 hr
  have ⟨a, b, c, d, e, f, g⟩ := hR
  have fs := hf.sum
  have fg := hf.gen
  apply Sup.ext <;> simp only [readS, genAt, numAt]
  · rw [h1]; exact getO_octZ8 _ fg.1 fg.2
  · rw [h2]; exact getO_octZ4 _ (by omega) (by omega)
  · rw [h3]; exact getO_octZ4 _ (by omega) (by omega)
  · rw [h4]; exact getO_octZ4 _ (by omega) (by omega)
  · rw [h5]; exact getO_octZ4 _ (by omega) (by omega)
  · rw [h6]; exact getO_octZ4 _ (by omega) (by omega)
  · rw [h7]; exact getO_octZ4 _ (by omega) (by omega)
  · rw [h8]; exact getO_octZ4 _ (by omega) (by omega)
theorem readS_sect (s : Sup) (hf : s.Fits) (hr : okS s = true) : readS (sect s) = s := readS_body s _ hf hr
theorem toldS_sect (s : Sup) (hf : s.Fits) (hr : okS s = true) : toldS (sect s) = some s := by
  unfold toldS toldB
  rw [readS_sect s hf hr, hr, decide_eq_true rfl]; rfl

/-! ### One octet turned -/
theorem set_getD (l : List Nat) (k d : Nat) (h : k < l.length) (hd : d ≠ l[k]?.getD 0) : l.set k d ≠ l := by
  intro e
  have := congrArg (fun x => x[k]?.getD 0) e
  simp [h] at this
  rw [List.getElem?_eq_getElem h] at hd
  exact hd (by simpa using this)
theorem turned_told (s : Sup) (k d : Nat) (hk : k < 128) (hd : d < 256) (hn : d ≠ (sect s)[k]?.getD 0) : toldS ((sect s).set k d) = none := by
  cases h : toldS ((sect s).set k d) with
  | none => rfl
  | some t =>
    exfalso
    obtain ⟨_, h2, _⟩ := toldS_some h
    have hs := sealedB_seal (body s) (body_small s)
    have ht := sealedB_seal (body t) (body_small t)
    have hz := sect_small s
    have hx : (sect s)[k]?.getD 0 < 256 := by
      rw [List.getElem?_eq_getElem (by rw [sect_length]; exact hk)]
      exact hz _ (List.getElem_mem _)
    have hnum := numN_set (sect s) k ((sect s)[k]?.getD 0 ^^^ d) (by rw [sect_length]; exact hk) hz (Nat.xor_lt_two_pow (n := 8) hx hd)
    rw [← Nat.xor_assoc, Nat.xor_self, Nat.zero_xor, show (256 : Nat) ^ k = 2 ^ (8 * k) by rw [Nat.pow_mul]] at hnum
    have hno := turned_no (sect s) ((sect s).set k d) (8 * k) ((sect s)[k]?.getD 0 ^^^ d) hz (set_small _ _ _ hz hd) (by simp) (by rw [sect_length]; decide) hs (by rw [sect_length]; omega)
      (Nat.lt_of_lt_of_le (Nat.xor_lt_two_pow (n := 8) hx hd) (by decide)) (fun e => hn (xor_eq_zero e).symm) hnum
    rw [← h2] at hno
    rw [show sealedB (sect t) = true from ht] at hno
    cases hno

/-! ### Two sectors -/
def evenS (o : Option Sup) : Option Sup := match o with | some s => if s.gen % 2 = 0 then some s else none | none => none
def oddS (o : Option Sup) : Option Sup := match o with | some s => if s.gen % 2 = 1 then some s else none | none => none
def pickS (a b : Option Sup) : Option Sup := match a, b with | some x, some y => if y.gen < x.gen then some x else some y | some x, none => some x | none, o => o
def newestS (zs : List Nat) : Option Sup := if zs.length = 256 then pickS (evenS (toldS (zs.take 128))) (oddS (toldS (zs.drop 128))) else none
def topStep (t n : Int) : Int := if n ≤ 281474976710656 then (if t < n then n else t) else t
def topS (zs : List Nat) : Int := if zs.length = 256 then topStep (topStep (topStep (topStep 0 (genAt zs 4)) (genAt zs 116)) (genAt zs 132)) (genAt zs 244) else 0
end Go.Proofs.YtfclhehpbniapaaDoor
