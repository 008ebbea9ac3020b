/- Some texts of mine, one behind the other (joined by program). -/
import Derived.Test.YtjhkcdnfnmglhaaGreatDoorJ1
import Derived.Test.YtjhkcdnfnmglhaaGreatDoorJ3
import Derived.Deep.RegionLaw
import Derived.Lib.AppendStr
import Derived.Deep.RegionHeld3
import Derived.Test.YtjhkcdnfnmglhaaGreatDoorJ2
import Derived.Laws.CopyOwn
import Derived.Lib.BufferWrite
import Derived.Deep.MidRow
import Derived.Deep.WholeRow
import Derived.DeepKeys
import Derived.Lib.ConvBytes
import Derived.Deep.DeepMust
import Derived.WalkKit

/- Plain arithmetic for octets: a number of octets, of bits of octets. No Go in sight. -/
namespace Go.Proofs.YtjhkcdnfnmglhaaGreatDoor
open Go.RowKit

/-- The number of octets, the least first. -/
def getN : List Int → Int
  | [] => 0
  | b :: r => b + 256 * getN r

theorem getN_snoc (l : List Int) (b : Int) : getN (l ++ [b]) = getN l + 2 ^ (8 * l.length) * b := by
  induction l with
  | nil => simp [getN]
  | cons x r ih =>
    simp only [List.cons_append, getN, ih, List.length_cons]
    have e : (2 : Int) ^ (8 * (r.length + 1)) = 256 * 2 ^ (8 * r.length) := by
      rw [show (256 : Int) = 2 ^ 8 by rfl, ← Int.pow_add, show 8 + 8 * r.length = 8 * (r.length + 1) by omega]
    rw [e, Int.mul_add, Int.mul_assoc]
    omega
theorem getN_bd (l : List Int) (h : ∀ b ∈ l, 0 ≤ b ∧ b ≤ 255) : 0 ≤ getN l ∧ getN l < 2 ^ (8 * l.length) := by
  induction l with
  | nil => simp [getN]
  | cons x r ih =>
    have h1 := h x (by simp)
    have h2 := ih fun b hb => h b (by simp [hb])
    have e : (2 : Int) ^ (8 * (r.length + 1)) = 256 * 2 ^ (8 * r.length) := by
      rw [show (256 : Int) = 2 ^ 8 by rfl, ← Int.pow_add, show 8 + 8 * r.length = 8 * (r.length + 1) by omega]
    simp only [getN, List.length_cons, e]
    omega
theorem ofN_append (a b : List Int) : ofN (a ++ b) = ofN a + 2 ^ a.length * ofN b := by
  induction a with
  | nil => simp [ofN]
  | cons x r ih =>
    simp only [List.cons_append, ofN, ih, List.length_cons, Int.pow_succ]
    rw [Int.mul_add, Int.mul_comm (2 ^ r.length) 2, Int.mul_assoc]
    omega
/-- The bits of octets, eight a piece. -/
def bitsO (l : List Int) : List Int := l.flatMap fun z => bitsL z 8
theorem bitsO_length (l : List Int) : (bitsO l).length = 8 * l.length := by
  induction l with
  | nil => rfl
  | cons x r ih =>
    simp only [bitsO, List.flatMap_cons, List.length_append, bitsL_length, List.length_cons] at ih ⊢
    omega
theorem bitsO_snoc (l : List Int) (z : Int) : bitsO (l ++ [z]) = bitsO l ++ bitsL z 8 := by simp [bitsO]
theorem bitsO_bits (l : List Int) : ∀ b ∈ bitsO l, 0 ≤ b ∧ b ≤ 1 := by
  intro b hb
  simp only [bitsO, List.mem_flatMap] at hb
  obtain ⟨z, _, hz⟩ := hb
  exact bitsL_bits z 8 b hz
theorem ofN_bitsO (l : List Int) (h : ∀ b ∈ l, 0 ≤ b ∧ b ≤ 255) : ofN (bitsO l) = getN l := by
  induction l with
  | nil => rfl
  | cons x r ih =>
    have h1 := h x (by simp)
    have h2 := ih fun b hb => h b (by simp [hb])
    show ofN (bitsL x 8 ++ bitsO r) = x + 256 * getN r
    rw [ofN_append, ofN_bitsL, bitsL_length, h2]
    have e : (2 : Int) ^ 8 = 256 := rfl
    rw [e]
    omega

theorem or_u64_add (x y : Int) (i : Nat) (hi : i ≤ 64) (hy0 : 0 ≤ y) (hy : y < 2 ^ i) (hx0 : 0 ≤ x) (hx : x % 2 ^ i = 0) (hx1 : x < 18446744073709551616) :
    bits .or .u64 y x = y + x := by
  have h64 : (2 : Int) ^ 64 = 18446744073709551616 := by decide
  have hle := two_pow_le i hi
  have e := bits_join .u64 64 (by decide) (fun n a b => by rw [h64] at b; rw [IntKind.wrap_u64]; omega) i x y hx0 hx (by rw [h64]; exact hx1) hy0 hy (by rw [h64]; omega)
  have c : bits .or .u64 y x = bits .or .u64 x y := by
    show IntKind.u64.wrap ((BitVec.ofInt 64 y ||| BitVec.ofInt 64 x).toNat : Int) = IntKind.u64.wrap ((BitVec.ofInt 64 x ||| BitVec.ofInt 64 y).toNat : Int)
    rw [BitVec.or_comm]
  rw [c, e]
  omega

/-- One step of 'Get': the octet z behind what is there. -/
theorem get_step (l : List Int) (z : Int) (hl : l.length < 8) (h : ∀ b ∈ l, 0 ≤ b ∧ b ≤ 255) (hz0 : 0 ≤ z) (hz1 : z ≤ 255) :
    bits .or .u64 (getN l) (IntKind.u64.wrap (z * 2 ^ (8 * l.length))) = getN (l ++ [z]) := by
  have hb := getN_bd l h
  have hs := two_pow_split (8 * l.length) (by omega)
  have hp := two_pow_pos (8 * l.length)
  have hq : (256 : Int) ≤ 2 ^ (64 - 8 * l.length) := by
    have e : (2 : Int) ^ (64 - 8 * l.length) = 256 * 2 ^ (56 - 8 * l.length) := by
      rw [show (256 : Int) = 2 ^ 8 by rfl, ← Int.pow_add, show 8 + (56 - 8 * l.length) = 64 - 8 * l.length by omega]
    have := two_pow_pos (56 - 8 * l.length)
    omega
  have h1 : z * 2 ^ (8 * l.length) ≤ 255 * 2 ^ (8 * l.length) := Int.mul_le_mul_of_nonneg_right hz1 (Int.le_of_lt hp)
  have h2 : (2 : Int) ^ (8 * l.length) * 256 ≤ 2 ^ (8 * l.length) * 2 ^ (64 - 8 * l.length) := Int.mul_le_mul_of_nonneg_left hq (Int.le_of_lt hp)
  have h0 : 0 ≤ z * 2 ^ (8 * l.length) := Int.mul_nonneg hz0 (Int.le_of_lt hp)
  have e : IntKind.u64.wrap (z * 2 ^ (8 * l.length)) = z * 2 ^ (8 * l.length) := by rw [IntKind.wrap_u64]; omega
  rw [e, or_u64_add _ _ (8 * l.length) (by omega) hb.1 hb.2 h0 (Int.mul_emod_left _ _) (by omega), getN_snoc, Int.mul_comm z]

theorem bits_down (n : Int) (a m : Nat) : n / 2 ^ (a + 1) % 2 ^ m * 2 + n / 2 ^ a % 2 = n / 2 ^ a % 2 ^ (m + 1) := by
  rw [two_pow_succ a, ← Int.ediv_ediv_of_nonneg (Int.le_of_lt (two_pow_pos a))]
  generalize n / 2 ^ a = q
  have e := Int.mul_emod_mul_of_pos (q / 2) (2 ^ m) (show (0 : Int) < 2 by decide)
  have hq : q = 2 * (q / 2) + q % 2 := by omega
  have hp := two_pow_pos m
  have hr : 0 ≤ q / 2 % 2 ^ m ∧ q / 2 % 2 ^ m < 2 ^ m := sgn_bounds _ m
  have e2 : q / 2 = 2 ^ m * (q / 2 / 2 ^ m) + q / 2 % 2 ^ m := (Int.mul_ediv_add_emod _ _).symm
  have h3 : q = (q / 2 % 2 ^ m * 2 + q % 2) + 2 ^ (m + 1) * (q / 2 / 2 ^ m) := by
    rw [two_pow_succ, Int.mul_assoc, Int.mul_comm 2, ← Int.mul_assoc]
    omega
  have h4 : ((q / 2 % 2 ^ m * 2 + q % 2) + 2 ^ (m + 1) * (q / 2 / 2 ^ m)) % 2 ^ (m + 1) = q / 2 % 2 ^ m * 2 + q % 2 := by
    rw [Int.add_mul_emod_self_left]
    exact Int.emod_eq_of_lt (by omega) (by rw [two_pow_succ]; omega)
  rw [← h3] at h4
  exact h4.symm
end Go.Proofs.YtjhkcdnfnmglhaaGreatDoor

/- Contract of 'Get': the number of octets. -/
namespace Go.Proofs.YtjhkcdnfnmglhaaGreatDoor
open Go.RowKit
set_option linter.unusedVariables false

theorem octL_succ (n : Int) (k : Nat) : octL n (k + 1) = octL n k ++ [octet n k] := by simp [octL, List.range_succ]
theorem octL_length (n : Int) (k : Nat) : (octL n k).length = k := by simp [octL]

theorem take_snoc (zs : List Int) (k : Nat) (h : k < zs.length) : zs.take (k + 1) = zs.take k ++ [zs[k]?.getD 0] := by
  rw [List.take_add_one, List.getElem?_eq_getElem h]; rfl
theorem getD_oct (l : List Int) (h : ∀ b ∈ l, 0 ≤ b ∧ b ≤ 255) (k : Nat) : 0 ≤ l[k]?.getD 0 ∧ l[k]?.getD 0 ≤ 255 := by
  by_cases hk : k < l.length
  · rw [List.getElem?_eq_getElem hk]; exact h _ (List.getElem_mem hk)
  · rw [List.getElem?_eq_none (by omega)]; simp

/-- The k-th octet of a row, as a letter of its own. -/
theorem elem_oct {w : World} {b off : Nat} {zs : List Int} (hc : ∀ j, j < zs.length → w.cell? ⟨b, off + j, none⟩ = some (.int .u8 (zs[j]?.getD 0))) (hz : ∀ z ∈ zs, 0 ≤ z ∧ z ≤ 255) (k : Nat) (hk : k < zs.length) :
    ∃ z, w.cell? ⟨b, off + k, none⟩ = some (.int .u8 z) ∧ (0 ≤ z ∧ z ≤ 255) ∧ Hid (zs.take (k + 1) = zs.take k ++ [z]) :=
  ⟨zs[k]?.getD 0, hc k hk, getD_oct zs hz k, take_snoc zs k hk⟩

/-- The number of the first eight octets. -/
def getI (zs : List Int) : Int := wrap64 (getN (zs.take 8))

end Go.Proofs.YtjhkcdnfnmglhaaGreatDoor

/- Contracts of a reading's methods. -/
namespace Go.Proofs.YtjhkcdnfnmglhaaGreatDoor
open Go.RowKit
set_option linter.unusedVariables false

/-- So many octets can be taken off. -/
def RS.can (s : RS) (n : Nat) : Bool := !s.fail && decide (n ≤ s.zs.length)
/-- The octets that are taken off. -/
def RS.oct (s : RS) (n : Nat) : List Nat := if s.can n then s.zs.take n else []
/-- What is left behind it. -/
def RS.off (s : RS) (n : Nat) : RS := if s.can n then ⟨s.zs.drop n, false⟩ else .failed
theorem RS.can_iff {s : RS} {n : Nat} : s.can n = true ↔ s.fail = false ∧ n ≤ s.zs.length := by simp [RS.can]
theorem RS.cannot {s : RS} {n : Nat} (h : ¬ s.can n = true) : s.fail = true ∨ (n : Int) < 0 ∨ (s.zs.length : Int) < n := by
  rw [RS.can_iff] at h
  cases hf : s.fail
  · right; right
    have : ¬ n ≤ s.zs.length := fun e => h ⟨hf, e⟩
    omega
  · left; rfl

/-- The number of octets, as layer 1 gets it. -/
def getO (zs : List Nat) : Int := getI (zs.map Int.ofNat)
theorem getO_nil : getO [] = 0 := by decide +kernel

end Go.Proofs.YtjhkcdnfnmglhaaGreatDoor

/- A writing in memory; contracts of 'Write' and of a writing's 'Num', 'Zig', 'Text', 'Bytes'. -/
namespace Go.Proofs.YtjhkcdnfnmglhaaGreatDoor
open Go.RowKit
set_option linter.unusedVariables false

/-- 'append(own, octets...)' as a step of a region that draws. -/
theorem step_append_octs {P : Program} {w : World} {ops : Array Oper} {o : Oper} {a : Act} {K : Act → World → Prop} {Q : Exit → Act → World → Prop} {E : Prop} (hgd : o.guard = none) (s x : Operand) (t : TypeId)
    (ho : o.op = .call { callee := .builtin .append, args := #[s, x], argTypes := #[t, t] })
    (base : Nat) (e : TypeId) (i : TypeInfo) (ht : P.underlying t = some (.slice e)) (hi : P.info? e = some i) (hz : i.zero = some (.int .u8 0)) (hsize : i.size = 1) (hby : i.bytes = 1)
    (v : Value) (n : Nat) (xs : List Nat) (hs : a.eval s = v) (hown : w.ownsRow base e 1 v n (u8s xs))
    (y : Value) (zs : List Nat) (hx : a.eval x = y) (hsrc : Octs w y zs) (h63 : n + zs.length ≤ 140737488355328) (hbase : base ≤ w.heap.size)
    (h : ∀ v' w', w'.ownsRow base e 1 v' (n + zs.length) (u8s (xs ++ zs)) → w.grownBy w' v.ownBlock → K (a.put o.dst v') w') :
    if Region.wanted o (yielded ops a.tmps) = true then Oper.wp P o a w K Q else E := by
  have hw : Region.wanted o (yielded ops a.tmps) = true := by simp [Region.wanted, hgd]
  rw [if_pos hw]
  obtain ⟨h1, h2, ad, cap, rfl, h3, h4, h5⟩ := hsrc
  rcases h5 with ⟨rfl, rfl⟩ | ⟨ad, rfl, h5⟩
  · obtain rfl : zs = [] := List.eq_nil_of_length_eq_zero (by omega)
    have hrun := run_append_owned_none (P := P) (w := w) base t o.type e i 1 ht hi v n _ hown
    unfold Oper.wp
    simp [execOp, ho, resolve, invoke, builtin, hs, hx, hrun, Result.andThen]
    exact h v w (by simpa using hown) (World.grownBy.refl _ _)
  · refine wp_append_own w s x t ho base e i (.int .u8 0) 1 1 ht hi hz hsize hby rfl (by decide) v n _ hs hown ad zs.length cap (u8s zs) hx (by rw [u8s_length, Nat.mul_one]) ?_ ?_ (by unfold maxLen; omega) (by omega) hbase ?_
    · intro j u hu
      rcases h5 with rfl | ⟨b, off, rfl, hlt, hc⟩
      · simp [u8s] at hu
      · have hj : j < zs.length := by
          by_cases hj : j < zs.length
          · exact hj
          · rw [List.getElem?_eq_none (by rw [u8s_length]; omega)] at hu; cases hu
        rw [show (⟨b, off, none⟩ : Addr).add j = ⟨b, off + j, none⟩ by unfold Addr.add; split <;> simp_all, hc j hj]
        simp [u8s, List.getElem?_eq_getElem hj] at hu ⊢
        exact hu
    · intro u hu
      simp only [u8s, List.mem_map] at hu
      obtain ⟨z, _, rfl⟩ := hu
      rfl
    · intro v' w' hw hg _
      rw [← u8s_append] at hw
      exact h v' w' hw hg

/-! ### A writing -/
theorem own_shape {base : Nat} {e : TypeId} {w : World} {v : Value} {n : Nat} {xs : List Value} (h : w.ownsRow base e 1 v n xs) : ∃ a cap, v = .slice a n cap := by
  rcases h.2 with ⟨rfl, h0⟩ | ⟨g, cap, cur, rfl, _⟩
  · exact ⟨none, 0, by rw [h0]⟩
  · exact ⟨_, cap, rfl⟩
/-- A number's octets. -/
def octZ (n : Int) (k : Nat) : List Nat := (octL n k).map Int.toNat
theorem octZ_length (n : Int) (k : Nat) : (octZ n k).length = k := by simp [octZ, octL]
theorem octet_bd (n : Int) (i : Nat) : 0 ≤ octet n i ∧ octet n i < 256 := by unfold octet; omega
theorem octZ_small (n : Int) (k : Nat) : ∀ z ∈ octZ n k, z < 256 := by
  intro z hz
  simp only [octZ, octL, List.map_map, List.mem_map] at hz
  obtain ⟨i, _, rfl⟩ := hz
  have := octet_bd n i
  simp only [Function.comp]
  omega
theorem octZ_cells (n : Int) (k : Nat) : (octL n k).map (Value.int .u8) = u8s (octZ n k) := by
  unfold octZ u8s octL
  rw [List.map_map, List.map_map, List.map_map]
  apply List.map_congr_left
  intro i _
  have := octet_bd n i
  simp only [Function.comp]
  congr 1; omega
theorem octs_new (w : World) (zs : List Nat) (e : TypeId) (h : ∀ z ∈ zs, z < 256) (hl : zs.length ≤ maxLen) : Octs (w.alloc (.cells (u8s zs).toArray e)) (.slice (some ⟨w.heap.size, 0, none⟩) zs.length zs.length) zs := by
  refine ⟨h, hl, _, zs.length, rfl, Nat.le_refl _, hl, .inr ⟨_, rfl, .inr ⟨_, 0, rfl, by simp, ?_⟩⟩⟩
  intro j hj
  rw [Nat.zero_add, cell_of_row _ _ _ _ _ _ (heap_alloc_new w _)]
  simp [u8s, List.getElem?_eq_getElem hj]
/-- One octet in a block of its own. -/
theorem octs_single (w : World) (x : Nat) (hx : x < 256) : Octs (w.alloc (.cells #[.int .u8 (x : Nat)] 5)) (.slice (some ⟨w.heap.size, 0, none⟩) 1 1) [x] :=
  octs_new w [x] 5 (by intro z hz; simp at hz; omega) (by simp [maxLen])

/-- A string's octets. -/
def octsOf (s : ByteArray) : List Nat := s.data.toList.map UInt8.toNat
theorem octsOf_length (s : ByteArray) : (octsOf s).length = s.size := by rw [octsOf, List.length_map]; rfl
theorem octsOf_small (s : ByteArray) : ∀ z ∈ octsOf s, z < 256 := by
  intro z hz
  simp only [octsOf, List.mem_map] at hz
  obtain ⟨b, _, rfl⟩ := hz
  exact b.toNat_lt
theorem strN_octsOf (s : ByteArray) : strN (octsOf s) = s := by
  apply ByteArray.ext
  simp only [strN, strOfNums, octsOf, List.map_map]
  have : ((fun n => UInt8.ofNat n.toNat) ∘ Int.ofNat ∘ UInt8.toNat) = id := by
    funext b
    simp
  rw [this]
  simp
theorem octsOf_strN (ts : List Nat) (h : ∀ t ∈ ts, t < 256) : octsOf (strN ts) = ts := by
  apply strN_inj (octsOf_small _) h
  exact strN_octsOf _
theorem strCells_octs (s : ByteArray) : Lib.strCells s = u8s (octsOf s) := by
  simp [Lib.strCells, u8s, octsOf]

end Go.Proofs.YtjhkcdnfnmglhaaGreatDoor

/- Contracts of 'Read' and of a reading's 'Text'. -/
namespace Go.Proofs.YtjhkcdnfnmglhaaGreatDoor
open Go.RowKit
set_option linter.unusedVariables false
/-! ### Two octets as a number -/
/-- The number of octets, the least first. -/
def getL : List Nat → Nat
  | [] => 0
  | b :: r => b + 256 * getL r
theorem getN_getL (zs : List Nat) : getN (zs.map Int.ofNat) = (getL zs : Nat) := by
  induction zs with
  | nil => rfl
  | cons z r ih => simp only [List.map_cons, getN, ih, getL, Int.ofNat_eq_natCast]; omega
theorem getL_lt (zs : List Nat) (h : ∀ z ∈ zs, z < 256) : getL zs < 256 ^ zs.length := by
  induction zs with
  | nil => simp [getL]
  | cons z r ih =>
    have h1 := h z (by simp)
    have h2 := ih fun y hy => h y (by simp [hy])
    simp only [getL, List.length_cons, Nat.pow_succ]
    omega
theorem getO_two (zs : List Nat) (h : ∀ z ∈ zs, z < 256) (hl : zs.length ≤ 2) : getO zs = (getL zs : Nat) ∧ getL zs < 65536 := by
  have h1 := getL_lt zs h
  have h2 : (256 : Nat) ^ zs.length ≤ 65536 := by
    have : zs.length = 0 ∨ zs.length = 1 ∨ zs.length = 2 := by omega
    rcases this with e | e | e <;> rw [e] <;> decide
  unfold getO getI
  rw [List.take_of_length_le (by rw [List.length_map]; omega), getN_getL]
  unfold wrap64
  omega

end Go.Proofs.YtjhkcdnfnmglhaaGreatDoor

/- Laws of my own: 'copy' of octets into a row that is known whole; whole arrays of octets; held against each other. -/
namespace Go.Proofs.YtjhkcdnfnmglhaaGreatDoor
open Go.RowKit
set_option linter.unusedVariables false

theorem u8s_one (zs : List Nat) : ∀ v ∈ u8s zs, v.oneCell' = true := by
  intro u hu
  simp only [u8s, List.mem_map] at hu
  obtain ⟨z, _, rfl⟩ := hu
  rfl
theorem u8s_splice (cur : List Nat) (off : Nat) (zs : List Nat) : splice (u8s cur) off (u8s zs) = u8s (splice cur off zs) := by
  simp [splice, u8s, List.map_take, List.map_drop]
theorem u8s_at (zs : List Nat) (j : Nat) : (u8s zs).toArray[j]? = zs[j]?.map fun z => .int .u8 (z : Nat) := by simp [u8s]
theorem Octs.src {w : World} {v : Value} {zs : List Nat} (h : Octs w v zs) : ∃ sp cap, v = .slice sp zs.length cap ∧ (0 < (u8s zs).length → ∃ ad, sp = some ad ∧ ∀ j u, (u8s zs)[j]? = some u → w.cell? (ad.add j) = some u) := by
  obtain ⟨h1, h2, ad, cap, rfl, h3, h4, h5⟩ := h
  refine ⟨ad, cap, rfl, fun hp => ?_⟩
  rw [u8s_length] at hp
  rcases h5 with ⟨rfl, rfl⟩ | ⟨ad, rfl, h5⟩
  · omega
  · refine ⟨ad, rfl, fun j u hu => ?_⟩
    rcases h5 with rfl | ⟨b, off, rfl, hlt, hc⟩
    · simp at hp
    · have hj : j < zs.length := by
        by_cases hj : j < zs.length
        · exact hj
        · rw [List.getElem?_eq_none (by rw [u8s_length]; omega)] at hu; cases hu
      rw [show (⟨b, off, none⟩ : Addr).add j = ⟨b, off + j, none⟩ by unfold Addr.add; split <;> simp_all, hc j hj]
      simp [u8s, List.getElem?_eq_getElem hj] at hu ⊢
      exact hu

/-- 'copy(row[off:], octets)' as a step of a region that draws. -/
theorem step_copy_octs {P : Program} {ops : Array Oper} {o : Oper} {a : Act} {w : World} {K : Act → World → Prop} {Q : Exit → Act → World → Prop} {E : Prop} (hgd : o.guard = none) (d s : Operand) (dT sT : TypeId)
    (ho : o.op = .call { callee := .builtin .copy, args := #[d, s], argTypes := #[dT, sT] }) (elem : TypeId) (hu : P.underlying dT = some (.slice elem)) (hsz : (P.info? elem).map (·.size) = some 1)
    (g off dLen dCap : Nat) (hd : a.eval d = .slice (some ⟨g, off, none⟩) dLen dCap) (y : Value) (zs : List Nat) (hs : a.eval s = y) (hsrc : Octs w y zs)
    (cur : List Nat) (t : TypeId) (hg : w.heap[g]? = some (.cells (u8s cur).toArray t (0, 0))) (hfit : zs.length ≤ dLen) (hfit2 : off + zs.length ≤ cur.length)
    (B : Nat) (w0 : World) (hb : Below B w0 w) (hBg : B ≤ g)
    (h : ∀ w', Hid (w'.heap[g]? = some (.cells (u8s (splice cur off zs)).toArray t (0, 0))) → Hid (Below B w0 w') → Hid (Only g w w') → K (a.put o.dst (goInt zs.length)) w') :
    if Region.wanted o (yielded ops a.tmps) = true then Oper.wp P o a w K Q else E := by
  have hw : Region.wanted o (yielded ops a.tmps) = true := by simp [Region.wanted, hgd]
  rw [if_pos hw]
  obtain ⟨sp, cap, rfl, hpos⟩ := hsrc.src
  by_cases h0 : zs.length = 0
  · obtain rfl : zs = [] := List.eq_nil_of_length_eq_zero h0
    have hrun := run_copy_none (P := P) w dT sT o.type elem (some ⟨g, off, none⟩) sp dLen dCap 0 cap hu hsz (by simp [Nat.min])
    unfold Oper.wp
    simp [execOp, ho, resolve, invoke, builtin, hd, hs, hrun, Result.andThen]
    exact h w (show _ = _ by simpa [splice] using hg) hb (Only.refl _ _)
  · obtain ⟨ad, rfl, hsrc'⟩ := hpos (by rw [u8s_length]; omega)
    have hrun := run_copy_row (P := P) w dT sT o.type elem g off dLen dCap ad zs.length cap (u8s cur).toArray t (u8s zs) hu hsz hg (by rw [u8s_length]; exact (Nat.min_eq_left hfit).symm) hsrc' (by rw [u8s_length]; simpa [u8s_length] using hfit2) (u8s_one zs)
    unfold Oper.wp
    simp [execOp, ho, resolve, invoke, builtin, hd, hs, hrun, Result.andThen]
    rw [u8s_length]
    refine h _ (show _ = _ from ?_) (below_setRow hb hBg _) ?_
    · rw [← u8s_splice]
      simpa [splice, u8s_length] using setRow_heap w g _ _ t _ hg
    · exact Kept.trans (K := fun k => k < w.heap.size ∧ k ≠ g) (Kept.refl _ _) ⟨rfl, rfl, rfl, by simp [World.setRow], fun k hk => setRow_other w g k _ hk.2⟩
/-- The same in a walk. -/
theorem wpList_copy_octs {P : Program} {w : World} {ops : Array Oper} {rest : List Oper} {o : Oper} {a : Act} {Q : Exit → Act → World → Prop} (hgd : o.guard = none) (d s : Operand) (dT sT : TypeId)
    (ho : o.op = .call { callee := .builtin .copy, args := #[d, s], argTypes := #[dT, sT] }) (elem : TypeId) (hu : P.underlying dT = some (.slice elem)) (hsz : (P.info? elem).map (·.size) = some 1)
    (g off dLen dCap : Nat) (hd : a.eval d = .slice (some ⟨g, off, none⟩) dLen dCap) (y : Value) (zs : List Nat) (hs : a.eval s = y) (hsrc : Octs w y zs)
    (cur : List Nat) (t : TypeId) (hg : w.heap[g]? = some (.cells (u8s cur).toArray t (0, 0))) (hfit : zs.length ≤ dLen) (hfit2 : off + zs.length ≤ cur.length)
    (B : Nat) (w0 : World) (hb : Below B w0 w) (hBg : B ≤ g)
    (h : ∀ w', Hid (w'.heap[g]? = some (.cells (u8s (splice cur off zs)).toArray t (0, 0))) → Hid (Below B w0 w') → Hid (Only g w w') → wpList P ops Q rest (a.put o.dst (goInt zs.length)) w') : wpList P ops Q (o :: rest) a w := by
  refine wpList_plain hgd fun K hK => ?_
  have := step_copy_octs (P := P) (ops := ops) (o := o) (a := a) (w := w) (K := K) (Q := Q) (E := False) hgd d s dT sT ho elem hu hsz g off dLen dCap hd y zs hs hsrc cur t hg hfit hfit2 B w0 hb hBg (fun w' h1 h2 h3 => hK _ _ (h w' h1 h2 h3))
  have hw : Region.wanted o (yielded ops a.tmps) = true := by simp [Region.wanted, hgd]
  rwa [if_pos hw] at this
/-- 'copy(row[off:off+n], octets)', where there may be more octets. -/
theorem step_copy_octsN {P : Program} {ops : Array Oper} {o : Oper} {a : Act} {w : World} {K : Act → World → Prop} {Q : Exit → Act → World → Prop} {E : Prop} (hgd : o.guard = none) (d s : Operand) (dT sT : TypeId)
    (ho : o.op = .call { callee := .builtin .copy, args := #[d, s], argTypes := #[dT, sT] }) (elem : TypeId) (hu : P.underlying dT = some (.slice elem)) (hsz : (P.info? elem).map (·.size) = some 1)
    (g off dLen dCap : Nat) (hd : a.eval d = .slice (some ⟨g, off, none⟩) dLen dCap) (y : Value) (zs : List Nat) (hs : a.eval s = y) (hsrc : Octs w y zs)
    (cur : List Nat) (t : TypeId) (hg : w.heap[g]? = some (.cells (u8s cur).toArray t (0, 0))) (hfit : dLen ≤ zs.length) (hpos : 0 < dLen) (hfit2 : off + dLen ≤ cur.length)
    (B : Nat) (w0 : World) (hb : Below B w0 w) (hBg : B ≤ g)
    (h : ∀ w', Hid (w'.heap[g]? = some (.cells (u8s (splice cur off (zs.take dLen))).toArray t (0, 0))) → Hid (Below B w0 w') → Hid (Only g w w') → K (a.put o.dst (goInt dLen)) w') :
    if Region.wanted o (yielded ops a.tmps) = true then Oper.wp P o a w K Q else E := by
  have hw : Region.wanted o (yielded ops a.tmps) = true := by simp [Region.wanted, hgd]
  rw [if_pos hw]
  obtain ⟨sp, cap, rfl, hpos2⟩ := hsrc.src
  obtain ⟨ad, rfl, hsrc'⟩ := hpos2 (by rw [u8s_length]; omega)
  have hlen : (u8s (zs.take dLen)).length = dLen := by rw [u8s_length, List.length_take]; omega
  have hrun := run_copy_row (P := P) w dT sT o.type elem g off dLen dCap ad zs.length cap (u8s cur).toArray t (u8s (zs.take dLen)) hu hsz hg (by rw [hlen]; exact (Nat.min_eq_right hfit).symm) (fun j u hu => hsrc' j u (by
    have hj : j < dLen := by have := (List.getElem?_eq_some_iff.1 hu).1; rwa [hlen] at this
    rw [← hu]; simp only [u8s, List.map_take]; rw [List.getElem?_take_of_lt hj])) (by rw [hlen]; simpa [u8s_length] using hfit2) (u8s_one _)
  rw [hlen] at hrun
  unfold Oper.wp
  simp [execOp, ho, resolve, invoke, builtin, hd, hs, hrun, Result.andThen]
  refine h _ (show _ = _ from ?_) (below_setRow hb hBg _) ?_
  · rw [← u8s_splice, splice, hlen]
    simpa using setRow_heap w g _ _ t _ hg
  · exact Kept.trans (K := fun k => k < w.heap.size ∧ k ≠ g) (Kept.refl _ _) ⟨rfl, rfl, rfl, by simp [World.setRow], fun k hk => setRow_other w g k _ hk.2⟩
/-- 'copy(row[off:], "..")'. -/
theorem wpList_copy_str {P : Program} {w : World} {ops : Array Oper} {rest : List Oper} {o : Oper} {a : Act} {Q : Exit → Act → World → Prop} (hgd : o.guard = none) (d s : Operand) (dT sT : TypeId)
    (ho : o.op = .call { callee := .builtin .copy, args := #[d, s], argTypes := #[dT, sT] }) (elem : TypeId) (hu : P.underlying dT = some (.slice elem)) (hsz : (P.info? elem).map (·.size) = some 1)
    (g off dLen dCap : Nat) (hd : a.eval d = .slice (some ⟨g, off, none⟩) dLen dCap) (str : ByteArray) (hs : a.eval s = .string str)
    (cur : List Nat) (t : TypeId) (hg : w.heap[g]? = some (.cells (u8s cur).toArray t (0, 0))) (hfit : str.size ≤ dLen) (hfit2 : off + str.size ≤ cur.length)
    (B : Nat) (w0 : World) (hb : Below B w0 w) (hBg : B ≤ g)
    (h : ∀ w', Hid (w'.heap[g]? = some (.cells (u8s (splice cur off (octsOf str))).toArray t (0, 0))) → Hid (Below B w0 w') → wpList P ops Q rest (a.put o.dst (goInt str.size)) w') : wpList P ops Q (o :: rest) a w := by
  refine wpList_plain hgd fun K hK => ?_
  have hrun := Lib.run_copy_row_string (P := P) w dT sT o.type elem g off dLen dCap str (u8s cur).toArray t hu hsz hg hfit (by simpa [u8s_length] using hfit2)
  unfold Oper.wp
  simp [execOp, ho, resolve, invoke, builtin, hd, hs, hrun, Result.andThen]
  refine hK _ _ (h _ (show _ = _ from ?_) (below_setRow hb hBg _))
  have e : Lib.byteCells str.data.toList = u8s (octsOf str) := by simp [Lib.byteCells, u8s, octsOf]
  rw [← u8s_splice, ← octsOf_length, splice, u8s_length, e]
  simpa using setRow_heap w g _ _ t _ hg

/-- A row that is known whole, as octets. -/
theorem octs_row {w : World} {g : Nat} {zs : List Nat} {t : TypeId} (hg : w.heap[g]? = some (.cells (u8s zs).toArray t (0, 0))) (hz : ∀ z ∈ zs, z < 256) (k : Nat) (hk : k ≤ zs.length) (cap : Nat) (hl : zs.length ≤ maxLen) (hc : zs.length - k ≤ cap) (hc2 : cap ≤ maxLen) :
    Octs w (.slice (some ⟨g, k, none⟩) (zs.length - k) cap) (zs.drop k) := by
  refine ⟨fun z h => hz z (List.mem_of_mem_drop h), by rw [List.length_drop]; omega, _, cap, by rw [List.length_drop], by rw [List.length_drop]; omega, hc2, .inr ⟨_, rfl, .inr ⟨g, k, rfl, lt_of_heap hg, ?_⟩⟩⟩
  intro j hj
  rw [cell_of_row _ _ _ _ _ _ hg, u8s_at]
  rw [List.length_drop] at hj
  simp [List.getElem?_eq_getElem (show k + j < zs.length by omega)]
theorem octs_row0 {w : World} {g n : Nat} {zs : List Nat} {t : TypeId} (hg : w.heap[g]? = some (.cells (u8s zs).toArray t (0, 0))) (hz : ∀ z ∈ zs, z < 256) (hn : zs.length = n) (hl : n ≤ maxLen) : Octs w (.slice (some ⟨g, 0, none⟩) n n) zs := by
  subst hn
  have := octs_row hg hz 0 (Nat.zero_le _) zs.length hl (by omega) hl
  rwa [Nat.sub_zero, List.drop_zero] at this
theorem below_setCells {B b : Nat} {a w : World} (h : Below B a w) (hb : B ≤ b) (o : Nat) (vs : List Value) : Below B a (w.setCells b o vs) :=
  ((Kept.ofBelow (K := fun k => k < B) h fun _ hk => hk).setCells (b := b) (by omega) o vs).below fun _ hk => hk
theorem range_row {w : World} {g : Nat} {C : List Value} {t : TypeId} (hg : w.heap[g]? = some (.cells C.toArray t (0, 0))) : w.rangeAt g 0 C := fun j v hv => by
  rw [cell_of_row _ _ _ _ _ _ hg, Nat.zero_add]
  simpa using hv
theorem there_row {w : World} {g : Nat} {C : List Value} {t : TypeId} (hg : w.heap[g]? = some (.cells C.toArray t (0, 0))) : w.there g 0 C.length := fun j hj => by
  refine ⟨?_, ?_⟩
  · rw [cell_of_row _ _ _ _ _ _ hg, Nat.zero_add]
    simp [hj]
  · simp [World.frozen?, hg]
theorem there_row' {w : World} {g : Nat} {C : List Value} {t : TypeId} {n : Nat} (hg : w.heap[g]? = some (.cells C.toArray t (0, 0))) (h : n = C.length) : w.there g 0 n := by subst h; exact there_row hg
/-- So many noughts. -/
def zl (n : Nat) : List Nat := List.replicate n 0
theorem zl_length (n : Nat) : (zl n).length = n := by simp [zl]
theorem zl_small (n : Nat) : ∀ z ∈ zl n, z < 256 := by intro z h; rw [List.eq_of_mem_replicate h]; decide
theorem rep_u8s (n : Nat) : Array.replicate n (Value.int .u8 0) = (u8s (zl n)).toArray := by simp [u8s, zl]

/-- A whole row is read, as the walk's own simp leaves it. -/
theorem load_row {P : Program} {w : World} {g n : Nat} {zs : List Nat} {t : TypeId} (hg : w.heap[g]? = some (.cells (u8s zs).toArray t (0, 0))) (hn : zs.length = n) : (loadCellsFrom ⟨g, 0, none⟩ 0 n #[]).run P w = .ok (u8s zs).toArray w := by
  have := run_loadCells_list (P := P) w ⟨g, 0, none⟩ (u8s zs) (fun j v hv => by rw [addr_add]; have := range_row hg j v hv; rwa [Nat.zero_add] at this)
  rw [u8s_length, hn] at this
  simpa [loadCells] using this

/-! ### Arrays of octets held against each other -/
theorem eqItems_u8 {P : Program} (w : World) (d : Nat) (e : TypeId) (k : IntKind) (hu : P.underlying e = some (.int k)) (xs ys : List Nat) : ∀ is : List Nat, (∀ i ∈ is, i < xs.length ∧ i < ys.length) →
    (Op.eqItems (d + 1) e 1 (u8s xs).toArray (u8s ys).toArray is).run P w = .ok (decide (∀ i ∈ is, xs[i]? = ys[i]?)) w
  | [], _ => by simp [Op.eqItems]
  | i :: is, h => by
    obtain ⟨h1, h2⟩ := h i (by simp)
    have ih := eqItems_u8 w d e k hu xs ys is fun j hj => h j (by simp [hj])
    have hp : ∀ zs : List Nat, (hz : i < zs.length) → (part e (u8s zs).toArray (i * 1)).run P w = .ok (.int .u8 (zs[i] : Nat)) w := by
      intro zs hz
      have e : (u8s zs)[i]? = some (.int .u8 (zs[i] : Nat)) := by simp [u8s, List.getElem?_eq_getElem hz]
      simp [part, isAgg, run_underlying hu, Result.andThen, e]
    simp only [Op.eqItems, Sem.run_bind, hp xs h1, hp ys h2, Result.andThen_ok, run_equalIn_int w d e .u8 k _ _ hu]
    by_cases hx : xs[i] = ys[i]
    · rw [show ((xs[i] : Int) == (ys[i] : Int)) = true by simp [hx]]
      simp only [Bool.not_true, Bool.false_eq_true, if_false, ih]
      congr 1
      simp [List.getElem?_eq_getElem h1, List.getElem?_eq_getElem h2, hx]
    · rw [show ((xs[i] : Int) == (ys[i] : Int)) = false by simp; omega]
      simp [List.getElem?_eq_getElem h1, List.getElem?_eq_getElem h2, hx]
theorem eq_arr {P : Program} (w : World) (t e : TypeId) (n : Nat) (k : IntKind) {i : TypeInfo} (ht : P.underlying t = some (.array n e)) (hi : P.info? e = some i) (hc : P.cellsOf e = 1) (hu : P.underlying e = some (.int k)) (xs ys : List Nat) (hx : xs.length = n) (hy : ys.length = n) :
    (Op.equalIn 10000 t (.agg (u8s xs).toArray) (.agg (u8s ys).toArray)).run P w = .ok (decide (xs = ys)) w := by
  rw [run_equalIn_array w 9999 _ _ ht hi, hc, eqItems_u8 w 9998 e k hu xs ys _ (fun j hj => by rw [List.mem_range] at hj; omega)]
  congr 1
  rw [decide_eq_decide]
  constructor
  · intro h
    apply List.ext_getElem?
    intro j
    by_cases hj : j < n
    · exact h j (by simpa using hj)
    · rw [List.getElem?_eq_none (by omega), List.getElem?_eq_none (by omega)]
  · rintro rfl _ _; rfl

/-! ### An element of an array that is a value -/
theorem run_index_one {P : Program} (w : World) {t e : TypeId} {n : Nat} {q : IntKind} (A : Array Value) (k : Nat) (v : Value) (hu : P.underlying t = some (.array n e)) (he : P.underlying e = some (.int q)) (hs : (P.info? e).map (·.size) = some 1) (hk : k < n) (hv : A[k]? = some v) :
    (Instr.index t (.agg A) (.int .i64 (k : Nat))).run P w = .ok v w := by
  have h1 : (0 : Int) ≤ (k : Int) := by omega
  have h2 : (k : Int) < (n : Int) := by omega
  cases hq : P.info? e with
  | none => simp [hq] at hs
  | some i =>
    simp [hq] at hs
    simp [Instr.index, asIntOf, run_underlying hu, run_underlying he, Result.andThen, h1, part, isAgg, sizeOf, typeInfo, hq, hs, hv]
    intro h; omega
theorem run_index_agg {P : Program} (w : World) {t e : TypeId} {n m : Nat} {e2 : TypeId} (A : Array Value) (k : Nat) (hu : P.underlying t = some (.array n e)) (he : P.underlying e = some (.array m e2)) (hs : (P.info? e).map (·.size) = some m) (hk : k < n) :
    (Instr.index t (.agg A) (.int .i64 (k : Nat))).run P w = .ok (.agg (A.extract (k * m) (k * m + m))) w := by
  have h1 : (0 : Int) ≤ (k : Int) := by omega
  have h2 : (k : Int) < (n : Int) := by omega
  cases hq : P.info? e with
  | none => simp [hq] at hs
  | some i =>
    simp [hq] at hs
    simp [Instr.index, asIntOf, run_underlying hu, run_underlying he, Result.andThen, h1, part, isAgg, sizeOf, typeInfo, hq, hs]
    intro h; omega
theorem u8s_extract (zs : List Nat) (a b : Nat) : (u8s zs).toArray.extract a b = (u8s ((zs.drop a).take (b - a))).toArray := by
  simp [u8s, List.map_take, List.map_drop]

/-- A whole variable into the block that was made last. -/
theorem wpList_store_last5 {P : Program} {ops : Array Oper} {rest : List Oper} {op : Oper} {a : Act} {w : World} {Q : Exit → Act → World → Prop} (hgd : op.guard = none) (ty : TypeId) (x y : Operand) (ho : op.op = .store ty x y)
    (w0 : World) (c : Array Value) (hw : w = w0.alloc (.cells c ty)) (cells : Array Value) (hx : a.eval x = .pointer (some ⟨w0.heap.size, 0, none⟩)) (hy : a.eval y = .agg cells)
    (hi : (P.info? ty).map (·.size) = some cells.size) (hs : c.size = cells.size) (h1 : cells.all (·.oneCell') = true)
    (h : wpList P ops Q rest (a.put op.dst undef) (w0.alloc (.cells cells ty))) : wpList P ops Q (op :: rest) a w := by
  subst hw
  refine wpList_plain hgd fun _ hK => ?_
  unfold Oper.wp execOp
  simp only [ho, hx, hy, Instr.storeAt, Instr.sureAddr, Sem.run_bind, Sem.run_pure, Result.andThen_ok, run_storeVar_new w0 ty c cells hi hs h1]
  exact hK _ _ h
end Go.Proofs.YtjhkcdnfnmglhaaGreatDoor

/- Contracts of the reference's functions over lists of bits (of, Low, Signed): what each call returns. -/
namespace Go.Proofs.YtjhkcdnfnmglhaaGreatDoor
open Go.RowKit
set_option linter.unusedVariables false

theorem Tryz.infoInt : (Tryz.prog.info? 3).map (fun i => (i.zero, i.size, i.bytes)) = some (some (.int .i64 0), 1, 8) := by kernel_rfl
theorem Tryz.infoU8 : (Tryz.prog.info? 5).map (fun i => (i.zero, i.size, i.bytes)) = some (some (.int .u8 0), 1, 1) := by kernel_rfl

def lastI (n : Int) (k i : Nat) : Int := if i = 0 then 0 else sbit n k (i - 1)
theorem lastI_lo (n : Int) (k i : Nat) (h : i < k) : sbit n k i = n / 2 ^ i % 2 := by
  unfold sbit; rw [if_neg (by omega), show min i (k - 1) = i by omega]
theorem lastI_hi (n : Int) (k i : Nat) (h : ¬ i < k) : lastI n k i = sbit n k i := by
  unfold lastI sbit
  by_cases h0 : k = 0
  · simp [h0]
  · rw [if_neg (by omega), if_neg h0, if_neg h0, show min (i - 1) (k - 1) = min i (k - 1) by omega]
theorem lastI_succ (n : Int) (k i : Nat) : lastI n k (i + 1) = sbit n k i := by unfold lastI; rw [if_neg (by omega)]; simp

end Go.Proofs.YtjhkcdnfnmglhaaGreatDoor

/- Contracts of the reference's 'Lay' and of both 'Get': octets to numbers and back. -/
namespace Go.Proofs.YtjhkcdnfnmglhaaGreatDoor
open Go.RowKit
set_option linter.unusedVariables false

def accI (n : Int) (k t : Nat) : Int := n / 2 ^ (8 * k + t) % 2 ^ (8 - t)
theorem accI_start (n : Int) (k : Nat) : accI n k 8 = 0 := by unfold accI; simp
theorem accI_end (n : Int) (k : Nat) : accI n k 0 = octet n k := rfl
theorem accI_bd (n : Int) (k t : Nat) : 0 ≤ accI n k t ∧ accI n k t < 256 := by
  unfold accI
  have h1 := sgn_bounds (n / 2 ^ (8 * k + t)) (8 - t)
  have h2 : (2 : Int) ^ (8 - t) ≤ 256 := by
    have : 8 - t = 0 ∨ 8 - t = 1 ∨ 8 - t = 2 ∨ 8 - t = 3 ∨ 8 - t = 4 ∨ 8 - t = 5 ∨ 8 - t = 6 ∨ 8 - t = 7 ∨ 8 - t = 8 := by omega
    rcases this with h | h | h | h | h | h | h | h | h <;> rw [h] <;> decide
  omega
theorem accI_step (n : Int) (k t : Nat) (ht : t + 1 ≤ 8) : accI n k (t + 1) * 2 + n / 2 ^ (8 * k + t) % 2 = accI n k t := by
  have := bits_down n (8 * k + t) (8 - (t + 1))
  rw [show 8 - (t + 1) + 1 = 8 - t by omega] at this
  exact this

end Go.Proofs.YtjhkcdnfnmglhaaGreatDoor

/- The document's numbers in octets, by octets wherever they lie; a string's octets laid anew. -/
namespace Go.Proofs.YtjhkcdnfnmglhaaGreatDoor
open Go.RowKit
set_option linter.unusedVariables false
end Go.Proofs.YtjhkcdnfnmglhaaGreatDoor

/- Strings of octets: pieces of them, held against each other, laid anew; a row of noughts made. -/
namespace Go.Proofs.YtjhkcdnfnmglhaaGreatDoor
open Go.RowKit
set_option linter.unusedVariables false

theorem strN_cut (zs : List Nat) (a b : Nat) : (strN zs).extract a b = strN ((zs.drop a).take (b - a)) := by
  apply ByteArray.ext
  rw [ByteArray.data_extract]
  simp [strN, strOfNums, List.map_take, List.map_drop]
theorem str_eqv (a b : List Nat) (ha : ∀ z ∈ a, z < 256) (hb : ∀ z ∈ b, z < 256) : ((strN a).toList == (strN b).toList) = decide (a = b) := by
  by_cases h : a = b
  · subst h; simp
  · rw [decide_eq_false h]
    apply beq_false_of_ne
    intro e
    refine h (strN_inj ha hb ?_)
    simp only [ByteArray.toList_eq] at e
    exact ByteArray.ext (Array.toList_inj.1 e)
theorem made_u8 (n : Nat) : madeCells (Value.int .u8 0).cells n = (u8s (zl n)).toArray := by
  rw [← rep_u8s]
  apply Array.ext
  · simp [madeCells]
  · intro i h1 h2
    simp [madeCells, Value.cells, Nat.mod_one]
end Go.Proofs.YtjhkcdnfnmglhaaGreatDoor

/- The condition that a region holds may be made stronger on the way. Generic over the program. -/
namespace Go.Proofs.YtjhkcdnfnmglhaaGreatDoor

theorem wpAnyH_stronger {P : Program} {md : Region.Mode} {ops : Array Oper} {Q : Exit → Act → World → Prop} {S S' : World → Prop} (hs : ∀ w, S' w → S w) :
    ∀ (fuel : Nat) (listed : Array Bool) (a : Act) (w : World), wpAnyH P md ops Q S' fuel listed a w → wpAnyH P md ops Q S fuel listed a w
  | 0, _, _, _, h => h
  | fuel + 1, _, _, _, h => ⟨h.1, fun i hi => wpOp_mono (fun a' w' h' => ⟨hs _ h'.1, wpAnyH_stronger hs fuel _ a' w' h'.2⟩) (h.2 i hi)⟩
end Go.Proofs.YtjhkcdnfnmglhaaGreatDoor

/- The document's Put of a list of mapped pages: its octets. (Written by wip/mk_refput11.py.) -/
namespace Go.Proofs.YtjhkcdnfnmglhaaGreatDoor
open Go.RowKit
set_option linter.unusedVariables false

/-- A mapped page's octets. -/
def recM (m : Md) : List Nat := octZ (numK m.k) 4 ++ octZ m.s 4 ++ octZ m.g 6 ++ octZ (m.u : Nat) 4
/-- A list's. -/
def putM (l : List Md) : List Nat := octZ (l.length : Nat) 4 ++ l.flatMap recM
theorem recM_length (m : Md) : (recM m).length = 18 := by simp [recM, octZ_length]
theorem recs_length (l : List Md) : (l.flatMap recM).length = 18 * l.length := by
  induction l with
  | nil => rfl
  | cons m r ih => rw [List.flatMap_cons, List.length_append, ih, recM_length, List.length_cons]; omega
theorem putM_length (l : List Md) : (putM l).length = 4 + 18 * l.length := by rw [putM, List.length_append, octZ_length, recs_length]
theorem recM_small (m : Md) : ∀ z ∈ recM m, z < 256 := by
  intro z hz
  simp only [recM, List.mem_append] at hz
  rcases hz with ((hz | hz) | hz) | hz <;> exact octZ_small _ _ z hz
theorem putM_small (l : List Md) : ∀ z ∈ putM l, z < 256 := by
  intro z hz
  simp only [putM, List.mem_append, List.mem_flatMap] at hz
  rcases hz with hz | ⟨m, _, hz⟩
  · exact octZ_small _ _ z hz
  · exact recM_small m z hz
/-- The octets of so many, behind how many there are. -/
def preM (l : List Md) (k : Nat) : List Nat := octZ (l.length : Nat) 4 ++ (l.take k).flatMap recM
theorem preM_succ {l : List Md} {k : Nat} {m : Md} (h : l[k]? = some m) : preM l (k + 1) = preM l k ++ recM m := by
  unfold preM
  rw [List.take_add_one, h]
  simp
theorem preM_length {l : List Md} {k : Nat} (h : k ≤ l.length) : (preM l k).length = 4 + 18 * k := by
  rw [preM, List.length_append, octZ_length, recs_length, List.length_take]
  omega
theorem ret_str {a b : ByteArray} (h : a = b) : Ending.returned (.string a) = .returned (.string b) := by rw [h]

end Go.Proofs.YtjhkcdnfnmglhaaGreatDoor

/- Plain arithmetic for layer 2 (crc): a register, its steps, sums of octets as a step of one great number. No Go in sight. -/
namespace Go.Proofs.YtjhkcdnfnmglhaaGreatDoor

def crcP : Nat := 3988292384
def crcF : Nat := 4294967295
/-- One bit: shifted, and xored where a 1 went out. -/
def crcS (n : Nat) : Nat := n / 2 ^^^ (if n % 2 = 1 then crcP else 0)
def crcN : Nat → Nat → Nat
  | 0, n => n
  | k + 1, n => crcN k (crcS n)

theorem xor_div_two (a b : Nat) : (a ^^^ b) / 2 = a / 2 ^^^ b / 2 := by
  have := Nat.shiftRight_xor_distrib (a := a) (b := b) (i := 1)
  simpa [Nat.shiftRight_eq_div_pow] using this
theorem xor_mod_two (a b : Nat) : (a ^^^ b) % 2 = (a % 2 + b % 2) % 2 := by
  have h := Nat.xor_mod_two_pow (a := a) (b := b) (n := 1)
  rw [Nat.pow_one] at h
  rw [h]
  have ha : a % 2 = 0 ∨ a % 2 = 1 := by omega
  have hb : b % 2 = 0 ∨ b % 2 = 1 := by omega
  rcases ha with ha | ha <;> rcases hb with hb | hb <;> rw [ha, hb] <;> rfl
theorem xor4 (a b c d : Nat) : a ^^^ b ^^^ (c ^^^ d) = a ^^^ c ^^^ (b ^^^ d) := by
  rw [Nat.xor_assoc, Nat.xor_assoc, ← Nat.xor_assoc b c d, Nat.xor_comm b c, Nat.xor_assoc c b d]
theorem xor_cancel (a b : Nat) : a ^^^ b ^^^ b = a := by rw [Nat.xor_assoc, Nat.xor_self, Nat.xor_zero]

theorem crcS_zero : crcS 0 = 0 := rfl
theorem crcS_xor (a b : Nat) : crcS (a ^^^ b) = crcS a ^^^ crcS b := by
  unfold crcS
  rw [xor_div_two, xor_mod_two, xor4]
  congr 1
  have ha : a % 2 = 0 ∨ a % 2 = 1 := by omega
  have hb : b % 2 = 0 ∨ b % 2 = 1 := by omega
  rcases ha with ha | ha <;> rcases hb with hb | hb <;> simp [ha, hb]
theorem crcN_xor (k a b : Nat) : crcN k (a ^^^ b) = crcN k a ^^^ crcN k b := by
  induction k generalizing a b with
  | zero => rfl
  | succ k ih => simp only [crcN, crcS_xor, ih]
theorem crcN_zero (k : Nat) : crcN k 0 = 0 := by
  induction k with
  | zero => rfl
  | succ k ih => simp only [crcN, crcS_zero, ih]
theorem crcN_add (j k n : Nat) : crcN (j + k) n = crcN k (crcN j n) := by
  induction j generalizing n with
  | zero => simp [crcN]
  | succ j ih => rw [Nat.succ_add]; simp only [crcN, ih]
theorem crcN_succ (k n : Nat) : crcN (k + 1) n = crcS (crcN k n) := crcN_add k 1 n
theorem crcS_two (n : Nat) : crcS (2 * n) = n := by
  unfold crcS
  rw [if_neg (by omega), Nat.xor_zero]; omega
theorem crcN_pow (k n : Nat) : crcN k (2 ^ k * n) = n := by
  induction k with
  | zero => simp [crcN]
  | succ k ih =>
    rw [Nat.pow_succ, Nat.mul_comm (2 ^ k) 2, Nat.mul_assoc]
    simp only [crcN, crcS_two, ih]
theorem crcS_lt (n : Nat) (h : n < 4294967296) : crcS n < 4294967296 := by
  unfold crcS
  have h1 : n / 2 < 2 ^ 32 := by omega
  have h2 : (if n % 2 = 1 then crcP else 0) < 2 ^ 32 := by unfold crcP; split <;> decide
  exact Nat.xor_lt_two_pow h1 h2
theorem crcN_lt (k n : Nat) (h : n < 4294967296) : crcN k n < 4294967296 := by
  induction k generalizing n with
  | zero => exact h
  | succ k ih => exact ih _ (crcS_lt n h)
theorem xor_eq_zero {a b : Nat} (h : a ^^^ b = 0) : a = b := by
  have := xor_cancel a b
  rw [h, Nat.zero_xor] at this
  exact this.symm
theorem crcS_ne (n : Nat) (h : n < 4294967296) (h0 : n ≠ 0) : crcS n ≠ 0 := by
  intro e
  unfold crcS at e
  have e2 := xor_eq_zero e
  have hm : n % 2 = 0 ∨ n % 2 = 1 := by omega
  rcases hm with hm | hm
  · rw [if_neg (by omega)] at e2; omega
  · rw [if_pos hm] at e2; unfold crcP at e2; omega
theorem crcN_ne (k n : Nat) (h : n < 4294967296) (h0 : n ≠ 0) : crcN k n ≠ 0 := by
  induction k generalizing n with
  | zero => exact h0
  | succ k ih => exact ih _ (crcS_lt n h) (crcS_ne n h h0)
theorem crcN_inj (k a b : Nat) (ha : a < 4294967296) (hb : b < 4294967296) (h : crcN k a = crcN k b) : a = b := by
  by_cases e : a = b
  · exact e
  · exfalso
    refine crcN_ne k (a ^^^ b) (Nat.xor_lt_two_pow (n := 32) ha hb) (fun h0 => e (xor_eq_zero h0)) ?_
    rw [crcN_xor, h, Nat.xor_self]

/-- A number's low bits xored with the rest are the number. -/
theorem add_xor (i a b : Nat) (h : b < 2 ^ i) : b + 2 ^ i * a = b ^^^ 2 ^ i * a := by
  apply Nat.eq_of_testBit_eq
  intro j
  rw [Nat.add_comm, Nat.testBit_two_pow_mul_add _ h, Nat.testBit_xor, Nat.testBit_two_pow_mul]
  by_cases hj : j < i
  · simp [hj, Nat.not_le.2 hj]
  · have : b.testBit j = false := Nat.testBit_lt_two_pow (Nat.lt_of_lt_of_le h (Nat.pow_le_pow_right (by decide) (by omega)))
    simp [hj, this, Nat.le_of_not_lt hj]
theorem crcN_low (i n : Nat) : crcN i n = n / 2 ^ i ^^^ crcN i (n % 2 ^ i) := by
  have h : n = n % 2 ^ i ^^^ 2 ^ i * (n / 2 ^ i) := by
    rw [← add_xor i _ _ (Nat.mod_lt _ (Nat.two_pow_pos i))]
    exact (Nat.mod_add_div n (2 ^ i)).symm
  conv => lhs; rw [h]
  rw [crcN_xor, crcN_pow, Nat.xor_comm]

/-- The table of the program: what four bits xor into the rest. -/
def crcTab : List Nat := [0, 498536548, 997073096, 651767980, 1994146192, 1802195444, 1303535960, 1342533948, 3988292384, 4027552580, 3604390888, 3412177804, 2607071920, 2262029012, 2685067896, 3183342108]
def crcT (k : Nat) : Nat := crcTab.getD k 0
theorem crcT_all : ∀ k, k < 16 → crcN 4 k = crcT k := by decide +kernel
theorem crcT_lt : ∀ k, k < 16 → crcT k < 4294967296 := by decide +kernel
theorem crcN_four (n : Nat) : crcN 4 n = n / 16 ^^^ crcT (n % 16) := by
  rw [crcN_low 4 n, ← crcT_all _ (Nat.mod_lt _ (by decide))]

/-- An octet taken into a register. -/
def crcTake (u c : Nat) : Nat := crcN 8 (u ^^^ c)
theorem crcTake_lt (u c : Nat) (hu : u < 4294967296) (hc : c < 256) : crcTake u c < 4294967296 :=
  crcN_lt 8 _ (Nat.xor_lt_two_pow (n := 32) hu (by omega))
theorem crcTake_four (u c : Nat) : crcTake u c = ((u ^^^ c) / 16 ^^^ crcT ((u ^^^ c) % 16)) / 16 ^^^ crcT (((u ^^^ c) / 16 ^^^ crcT ((u ^^^ c) % 16)) % 16) := by
  unfold crcTake
  rw [show (8 : Nat) = 4 + 4 by rfl, crcN_add, crcN_four (crcN 4 _), crcN_four]
/-- One round of the reference: an octet's bit and a register's. -/
theorem ref_round (u c : Nat) : (if (u % 2 ^^^ c % 2) = 1 then u / 2 ^^^ crcP else u / 2) ^^^ c / 2 = crcS (u ^^^ c) := by
  have h : (u ^^^ c) % 2 = (u % 2 ^^^ c % 2) := by
    rw [xor_mod_two]
    have hu : u % 2 = 0 ∨ u % 2 = 1 := by omega
    have hc : c % 2 = 0 ∨ c % 2 = 1 := by omega
    rcases hu with hu | hu <;> rcases hc with hc | hc <;> rw [hu, hc] <;> rfl
  unfold crcS
  rw [xor_div_two, h]
  by_cases e : (u % 2 ^^^ c % 2) = 1
  · rw [if_pos e, if_pos e, Nat.xor_assoc, Nat.xor_comm crcP, Nat.xor_assoc]
  · rw [if_neg e, if_neg e, Nat.xor_zero]

/-- Octets taken into a register, one behind the other. -/
def crcReg : List Nat → Nat → Nat
  | [], u => u
  | c :: r, u => crcReg r (crcTake u c)
theorem crcReg_append (a b : List Nat) (u : Nat) : crcReg (a ++ b) u = crcReg b (crcReg a u) := by
  induction a generalizing u with
  | nil => rfl
  | cons c r ih => exact ih _
theorem crcReg_snoc (a : List Nat) (c u : Nat) : crcReg (a ++ [c]) u = crcTake (crcReg a u) c := crcReg_append a [c] u
theorem crcReg_lt (l : List Nat) (u : Nat) (hl : ∀ z ∈ l, z < 256) (hu : u < 4294967296) : crcReg l u < 4294967296 := by
  induction l generalizing u with
  | nil => exact hu
  | cons c r ih => exact ih _ (fun z hz => hl z (by simp [hz])) (crcTake_lt u c hu (hl c (by simp)))
/-- The number of octets, the least first. -/
def numN : List Nat → Nat
  | [] => 0
  | c :: r => c + 256 * numN r
theorem numN_xor (c : Nat) (r : List Nat) (h : c < 256) : numN (c :: r) = c ^^^ 256 * numN r := add_xor 8 _ _ h
/-- Taken one by one is taken as one number. -/
theorem crcReg_num (l : List Nat) (u : Nat) (hl : ∀ z ∈ l, z < 256) : crcReg l u = crcN (8 * l.length) (u ^^^ numN l) := by
  induction l generalizing u with
  | nil => simp [crcReg, numN, crcN]
  | cons c r ih =>
    have hc := hl c (by simp)
    simp only [crcReg, List.length_cons]
    rw [ih _ fun z hz => hl z (by simp [hz]), numN_xor c r hc, show 8 * (r.length + 1) = 8 + 8 * r.length by omega, crcN_add, ← Nat.xor_assoc, crcN_xor 8 (u ^^^ c), crcTake]
    have := crcN_pow 8 (numN r)
    rw [show 2 ^ 8 * numN r = 256 * numN r by rfl] at this
    rw [this]

/-- A sum: the register behind all octets, turned over. -/
def crcAdd (s : Nat) (l : List Nat) : Nat := crcReg l (s ^^^ crcF) ^^^ crcF
def crcSum (l : List Nat) : Nat := crcAdd 0 l
theorem crcAdd_lt (s : Nat) (l : List Nat) (hl : ∀ z ∈ l, z < 256) (hs : s < 4294967296) : crcAdd s l < 4294967296 :=
  Nat.xor_lt_two_pow (n := 32) (crcReg_lt l _ hl (Nat.xor_lt_two_pow (n := 32) hs (by decide))) (by decide)
theorem crcSum_lt (l : List Nat) (hl : ∀ z ∈ l, z < 256) : crcSum l < 4294967296 := crcAdd_lt 0 l hl (by decide)
theorem crcAdd_nil (s : Nat) : crcAdd s [] = s := xor_cancel s crcF
theorem crcAdd_append (s : Nat) (a b : List Nat) : crcAdd s (a ++ b) = crcAdd (crcAdd s a) b := by
  unfold crcAdd
  rw [crcReg_append, xor_cancel]
theorem xor_F (n : Nat) (h : n < 4294967296) : n ^^^ crcF = 4294967295 - n := by
  have e : (n ^^^ crcF) + n = 4294967295 := by
    have h2 : (BitVec.ofNat 32 n ^^^ BitVec.allOnes 32) = ~~~ BitVec.ofNat 32 n := BitVec.xor_allOnes
    have h3 := congrArg BitVec.toNat h2
    rw [BitVec.toNat_xor, BitVec.toNat_not, BitVec.toNat_ofNat, BitVec.toNat_allOnes, Nat.mod_eq_of_lt (by simpa using h)] at h3
    have : n ^^^ crcF = 2 ^ 32 - 1 - n := h3
    rw [this]; omega
  omega
/-- Four octets of a number, the least first. -/
def octN (n : Nat) : List Nat := [n % 256, n / 256 % 256, n / 65536 % 256, n / 16777216 % 256]
theorem octN_small (n : Nat) : ∀ z ∈ octN n, z < 256 := by
  intro z hz
  simp only [octN, List.mem_cons, List.not_mem_nil, or_false] at hz
  omega
theorem octN_num (n : Nat) (h : n < 4294967296) : numN (octN n) = n := by
  simp only [octN, numN]; omega
theorem numN_octN (a b c d : Nat) (ha : a < 256) (hb : b < 256) (hc : c < 256) (hd : d < 256) : octN (numN [a, b, c, d]) = [a, b, c, d] := by
  simp only [octN, numN, List.cons.injEq, and_true]
  omega

/-- Octets of two texts, xored. -/
def xorL (a b : List Nat) : List Nat := List.zipWith (fun x y => x ^^^ y) a b
theorem xorL_length (a b : List Nat) (h : b.length = a.length) : (xorL a b).length = a.length := by simp [xorL, h]
theorem xorL_small (a b : List Nat) (ha : ∀ z ∈ a, z < 256) (hb : ∀ z ∈ b, z < 256) : ∀ z ∈ xorL a b, z < 256 := by
  intro z hz
  obtain ⟨i, hi, rfl⟩ := List.getElem_of_mem hz
  simp only [xorL, List.getElem_zipWith]
  simp [xorL] at hi
  exact Nat.xor_lt_two_pow (n := 8) (ha _ (List.getElem_mem _)) (hb _ (List.getElem_mem _))
theorem numN_xorL (a b : List Nat) (h : b.length = a.length) (ha : ∀ z ∈ a, z < 256) (hb : ∀ z ∈ b, z < 256) : numN (xorL a b) = numN a ^^^ numN b := by
  induction a generalizing b with
  | nil =>
    obtain rfl : b = [] := List.eq_nil_of_length_eq_zero (by simpa using h)
    rfl
  | cons x r ih =>
    match b, h, hb with
    | y :: s, h, hb =>
      have e : xorL (x :: r) (y :: s) = (x ^^^ y) :: xorL r s := rfl
      have hx := ha x (by simp)
      have hy := hb y (by simp)
      have hxy : x ^^^ y < 256 := Nat.xor_lt_two_pow (n := 8) hx hy
      rw [e, numN_xor _ _ hxy, numN_xor _ _ hx, numN_xor _ _ hy, ih s (by simpa using h) (fun z hz => ha z (by simp [hz])) (fun z hz => hb z (by simp [hz]))]
      rw [show 256 * (numN r ^^^ numN s) = 256 * numN r ^^^ 256 * numN s from ?_, xor4]
      have := Nat.shiftLeft_xor_distrib (a := numN r) (b := numN s) (i := 8)
      simpa [Nat.shiftLeft_eq, Nat.mul_comm] using this
theorem crcSum_num (l : List Nat) (h : ∀ z ∈ l, z < 256) : crcSum l = crcN (8 * l.length) (crcF ^^^ numN l) ^^^ crcF := by
  unfold crcSum crcAdd
  rw [crcReg_num _ _ h, Nat.zero_xor]
theorem crcSum_xor3 (a b c : List Nat) (hb : b.length = a.length) (hc : c.length = a.length) (sa : ∀ z ∈ a, z < 256) (sb : ∀ z ∈ b, z < 256) (sc : ∀ z ∈ c, z < 256) :
    crcSum (xorL (xorL a b) c) = crcSum a ^^^ crcSum b ^^^ crcSum c := by
  have l1 := xorL_length a b hb
  have s1 := xorL_small a b sa sb
  rw [crcSum_num _ (xorL_small _ c s1 sc), crcSum_num a sa, crcSum_num b sb, crcSum_num c sc, xorL_length _ c (by rw [l1, hc]), l1, hb, hc, numN_xorL _ c (by rw [l1, hc]) s1 sc, numN_xorL a b hb sa sb]
  generalize 8 * a.length = k
  rw [xor4 (crcN k (crcF ^^^ numN a)), Nat.xor_self, Nat.xor_zero, ← crcN_xor, ← Nat.xor_assoc (crcN k _) (crcN k _) crcF, ← crcN_xor]
  congr 2
  rw [xor4 crcF (numN a), Nat.xor_self, Nat.zero_xor, Nat.xor_comm (numN a ^^^ numN b) (crcF ^^^ numN c), Nat.xor_assoc crcF, Nat.xor_comm (numN c)]
  done
end Go.Proofs.YtjhkcdnfnmglhaaGreatDoor

/- Plain arithmetic: sealed octets, and what becomes of them where bits beside each other are turned. No Go in sight. -/
namespace Go.Proofs.YtjhkcdnfnmglhaaGreatDoor

/-- Are these octets sealed ones? -/
def sealedB (zs : List Nat) : Bool := decide (4 ≤ zs.length) && (numN (zs.drop (zs.length - 4)) == crcSum (zs.take (zs.length - 4)))
/-- What was sealed; none, if it wasn't. -/
def openL (zs : List Nat) : List Nat := if sealedB zs = true then zs.take (zs.length - 4) else []
theorem sealedB_short (zs : List Nat) (h : zs.length < 4) : sealedB zs = false := by
  unfold sealedB; rw [decide_eq_false (by omega)]; rfl
theorem sealedB_parts (zs ts : List Nat) (h : ts.length = 4) : sealedB (zs ++ ts) = (numN ts == crcSum zs) := by
  have e : (zs ++ ts).length - 4 = zs.length := by simp; omega
  unfold sealedB
  rw [e, List.drop_left, List.take_left, decide_eq_true (by simp; omega), Bool.true_and]
theorem openL_parts (zs ts : List Nat) (h : ts.length = 4) (hs : sealedB (zs ++ ts) = true) : openL (zs ++ ts) = zs := by
  have e : (zs ++ ts).length - 4 = zs.length := by simp; omega
  unfold openL
  rw [if_pos hs, e, List.take_left]
theorem openL_no (zs : List Nat) (hs : sealedB zs = false) : openL zs = [] := by
  unfold openL; rw [hs]; rfl
theorem sealedB_seal (zs : List Nat) (h : ∀ z ∈ zs, z < 256) : sealedB (zs ++ octN (crcSum zs)) = true := by
  rw [sealedB_parts _ _ rfl, octN_num _ (crcSum_lt zs h)]
  simp
theorem openL_seal (zs : List Nat) (h : ∀ z ∈ zs, z < 256) : openL (zs ++ octN (crcSum zs)) = zs := openL_parts _ _ rfl (sealedB_seal zs h)

theorem numN_lt (l : List Nat) (h : ∀ z ∈ l, z < 256) : numN l < 256 ^ l.length := by
  induction l with
  | nil => decide
  | cons c r ih =>
    have h1 := h c (by simp)
    have h2 := ih fun z hz => h z (by simp [hz])
    simp only [numN, List.length_cons, Nat.pow_succ]
    omega
/-- Sealed octets are those that leave one register. -/
theorem sealed_reg (zs : List Nat) (h : ∀ z ∈ zs, z < 256) (h4 : 4 ≤ zs.length) : (sealedB zs = true) ↔ crcN (8 * zs.length) (crcF ^^^ numN zs) = crcN 32 crcF := by
  have hp : ∀ z ∈ zs.take (zs.length - 4), z < 256 := fun z hz => h z (List.mem_of_mem_take hz)
  have ht : ∀ z ∈ zs.drop (zs.length - 4), z < 256 := fun z hz => h z (List.mem_of_mem_drop hz)
  have hl : (zs.drop (zs.length - 4)).length = 4 := by rw [List.length_drop]; omega
  have hn := numN_lt _ ht
  rw [hl] at hn
  have hr := crcReg_lt (zs.take (zs.length - 4)) crcF hp (by decide)
  have e : crcN (8 * zs.length) (crcF ^^^ numN zs) = crcN 32 (crcReg (zs.take (zs.length - 4)) crcF ^^^ numN (zs.drop (zs.length - 4))) := by
    rw [← crcReg_num zs crcF h]
    conv => lhs; rw [← List.take_append_drop (zs.length - 4) zs, crcReg_append]
    rw [crcReg_num _ _ ht, hl]
  rw [e]
  unfold sealedB
  rw [decide_eq_true h4, Bool.true_and, beq_iff_eq]
  have es : crcSum (zs.take (zs.length - 4)) = crcReg (zs.take (zs.length - 4)) crcF ^^^ crcF := by unfold crcSum crcAdd; rw [Nat.zero_xor]
  rw [es]
  generalize crcReg (zs.take (zs.length - 4)) crcF = r at *
  generalize numN (zs.drop (zs.length - 4)) = t at *
  constructor
  · intro ht
    rw [ht, ← Nat.xor_assoc, Nat.xor_self, Nat.zero_xor]
  · intro hx
    have h3 := crcN_inj 32 _ _ (Nat.xor_lt_two_pow (n := 32) hr (by omega)) (by decide) hx
    rw [← h3, ← Nat.xor_assoc, Nat.xor_self, Nat.zero_xor]
/-- Up to 32 bits beside each other turned: no longer sealed. -/
theorem turned_no (zs xs : List Nat) (k u : Nat) (hz : ∀ z ∈ zs, z < 256) (hx : ∀ z ∈ xs, z < 256) (hl : xs.length = zs.length) (h4 : 4 ≤ zs.length) (hs : sealedB zs = true) (hk : k ≤ 8 * zs.length) (hu : u < 4294967296) (h0 : u ≠ 0)
    (hn : numN xs = numN zs ^^^ 2 ^ k * u) : sealedB xs = false := by
  have h1 := (sealed_reg zs hz h4).1 hs
  have h2 := sealed_reg xs hx (by omega)
  cases hb : sealedB xs
  · rfl
  · exfalso
    have h3 := h2.1 hb
    rw [hl, hn, ← Nat.xor_assoc, crcN_xor, h1] at h3
    have h5 : crcN (8 * zs.length) (2 ^ k * u) = 0 := by
      have := congrArg (fun n => crcN 32 crcF ^^^ n) h3
      simp only [← Nat.xor_assoc, Nat.xor_self, Nat.zero_xor] at this
      exact this
    rw [show 8 * zs.length = k + (8 * zs.length - k) by omega, crcN_add, crcN_pow] at h5
    exact crcN_ne _ u hu h0 h5

theorem mul_xor (c a b : Nat) (i : Nat) (h : c = 2 ^ i) : c * (a ^^^ b) = c * a ^^^ c * b := by
  subst h
  have := Nat.shiftLeft_xor_distrib (a := a) (b := b) (i := i)
  simpa [Nat.shiftLeft_eq, Nat.mul_comm] using this
/-- One octet xored, in the number of all. -/
theorem numN_set (l : List Nat) (m d : Nat) (hm : m < l.length) (hl : ∀ z ∈ l, z < 256) (hd : d < 256) : numN (l.set m (l[m]?.getD 0 ^^^ d)) = numN l ^^^ 256 ^ m * d := by
  induction l generalizing m with
  | nil => simp at hm
  | cons c r ih =>
    have hc := hl c (by simp)
    have hr : ∀ z ∈ r, z < 256 := fun z hz => hl z (by simp [hz])
    cases m with
    | zero =>
      have hcd : c ^^^ d < 256 := Nat.xor_lt_two_pow (n := 8) hc hd
      simp only [List.set_cons_zero, List.getElem?_cons_zero, Option.getD_some, Nat.pow_zero, Nat.one_mul]
      rw [numN_xor _ _ hcd, numN_xor _ _ hc, Nat.xor_assoc, Nat.xor_assoc, Nat.xor_comm d]
    | succ m =>
      simp only [List.set_cons_succ, List.getElem?_cons_succ]
      rw [numN_xor _ _ hc, numN_xor _ _ hc, ih m (by simpa using hm) hr, mul_xor 256 _ _ 8 rfl, Nat.xor_assoc, Nat.pow_succ, Nat.mul_comm (256 ^ m) 256, Nat.mul_assoc]
theorem pow_split (k : Nat) : 256 ^ (k / 8) * 2 ^ (k % 8) = 2 ^ k := by
  rw [show (256 : Nat) = 2 ^ 8 by rfl, ← Nat.pow_mul, ← Nat.pow_add, Nat.div_add_mod]
/-- One bit more of a number. -/
theorem mod_step (u i : Nat) : u % 2 ^ (i + 1) = u % 2 ^ i ^^^ 2 ^ i * (u / 2 ^ i % 2) := by
  rw [← add_xor i _ _ (Nat.mod_lt _ (Nat.two_pow_pos i)), Nat.pow_succ, Nat.mod_mul]
theorem set_small (l : List Nat) (m d : Nat) (hl : ∀ z ∈ l, z < 256) (hd : d < 256) : ∀ z ∈ l.set m d, z < 256 := by
  intro z hz
  rcases List.mem_or_eq_of_mem_set hz with h | rfl
  · exact hl z h
  · exact hd
end Go.Proofs.YtjhkcdnfnmglhaaGreatDoor

/- A superblock in plain numbers: when it is right, its sector, what a sector tells, the newest of two, the top. No Go in sight but the values. -/
namespace Go.Proofs.YtjhkcdnfnmglhaaGreatDoor
open Go.RowKit
set_option linter.unusedVariables false

structure Sup where
  gen : Int
  journal : Int
  area : Int
  which : Int
  len : Int
  sum : Int
  epoch : Int
  start : Int
theorem Sup.ext {a b : Sup} (h1 : a.gen = b.gen) (h2 : a.journal = b.journal) (h3 : a.area = b.area) (h4 : a.which = b.which) (h5 : a.len = b.len) (h6 : a.sum = b.sum) (h7 : a.epoch = b.epoch) (h8 : a.start = b.start) : a = b := by
  cases a; cases b; simp only at h1 h2 h3 h4 h5 h6 h7 h8; subst h1 h2 h3 h4 h5 h6 h7 h8; rfl
/-- Its fields' kinds bear its numbers. -/
structure Sup.Fits (s : Sup) : Prop where
  gen : -9223372036854775808 ≤ s.gen ∧ s.gen ≤ 9223372036854775807
  journal : -9223372036854775808 ≤ s.journal ∧ s.journal ≤ 9223372036854775807
  area : -9223372036854775808 ≤ s.area ∧ s.area ≤ 9223372036854775807
  which : -9223372036854775808 ≤ s.which ∧ s.which ≤ 9223372036854775807
  len : -9223372036854775808 ≤ s.len ∧ s.len ≤ 9223372036854775807
  sum : 0 ≤ s.sum ∧ s.sum ≤ 4294967295
  epoch : -9223372036854775808 ≤ s.epoch ∧ s.epoch ≤ 9223372036854775807
  start : -9223372036854775808 ≤ s.start ∧ s.start ≤ 9223372036854775807
def Sup.zero : Sup := ⟨0, 0, 0, 0, 0, 0, 0, 0⟩
abbrev sval (s : Sup) : Value := .agg #[.int .i64 s.gen, .int .i64 s.journal, .int .i64 s.area, .int .i64 s.which, .int .i64 s.len, .int .u32 s.sum, .int .i64 s.epoch, .int .i64 s.start]

def btw (n l m : Int) : Bool := decide (l ≤ n ∧ n ≤ m)
/-- Is it right? -/
def okS (s : Sup) : Bool := btw s.gen 1 281474976710656 && (btw s.journal 4 4096 && (btw s.area 1 4096 && (btw s.which 0 1 && (btw s.len 0 (128 * s.area) && (btw s.epoch 1 2147483648 && btw s.start 0 (s.journal - 1))))))
structure Sup.Right (s : Sup) : Prop where
  gen : 1 ≤ s.gen ∧ s.gen ≤ 281474976710656
  journal : 4 ≤ s.journal ∧ s.journal ≤ 4096
  area : 1 ≤ s.area ∧ s.area ≤ 4096
  which : 0 ≤ s.which ∧ s.which ≤ 1
  len : 0 ≤ s.len ∧ s.len ≤ 128 * s.area
  epoch : 1 ≤ s.epoch ∧ s.epoch ≤ 2147483648
  start : 0 ≤ s.start ∧ s.start ≤ s.journal - 1
theorem okS_right {s : Sup} : okS s = true ↔ s.Right := by
  unfold okS btw
  simp only [Bool.and_eq_true, decide_eq_true_eq]
  exact ⟨fun ⟨a, b, c, d, e, f, g⟩ => ⟨a, b, c, d, e, f, g⟩, fun ⟨a, b, c, d, e, f, g⟩ => ⟨a, b, c, d, e, f, g⟩⟩

def numsS (s : Sup) : List Int := [s.journal, s.area, s.which, s.len, s.sum, s.epoch, s.start]
def fieldsN (s : Sup) : List Nat := octZ s.gen 8 ++ (numsS s).flatMap fun n => octZ n 4
/-- What is sealed. -/
def body (s : Sup) : List Nat := [77, 79, 84, 72] ++ (fieldsN s ++ (List.replicate 76 0 ++ octZ s.gen 8))
/-- Its sector. -/
def sect (s : Sup) : List Nat := body s ++ octN (crcSum (body s))
theorem fieldsN_length (s : Sup) : (fieldsN s).length = 36 := by simp [fieldsN, numsS, octZ_length]
theorem body_length (s : Sup) : (body s).length = 124 := by simp [body, fieldsN_length, octZ_length]
theorem sect_length (s : Sup) : (sect s).length = 128 := by rw [sect, List.length_append, body_length]; rfl
theorem fieldsN_small (s : Sup) : ∀ z ∈ fieldsN s, z < 256 := by
  intro z hz
  rcases List.mem_append.1 hz with h | h
  · exact octZ_small _ _ z h
  · rw [List.mem_flatMap] at h
    obtain ⟨n, _, h⟩ := h
    exact octZ_small _ _ z h
theorem body_small (s : Sup) : ∀ z ∈ body s, z < 256 := by
  intro z hz
  rcases List.mem_append.1 hz with h | h
  · simp at h; omega
  · rcases List.mem_append.1 h with h | h
    · exact fieldsN_small s z h
    · rcases List.mem_append.1 h with h | h
      · rw [List.eq_of_mem_replicate h]; decide
      · exact octZ_small _ _ z h
theorem sect_small (s : Sup) : ∀ z ∈ sect s, z < 256 := by
  intro z hz
  rcases List.mem_append.1 hz with h | h
  · exact body_small s z h
  · exact octN_small _ z h

/-! ### What octets tell -/
def genAt (zs : List Nat) (k : Nat) : Int := getO ((zs.drop k).take 8)
def numAt (zs : List Nat) (k : Nat) : Int := getO ((zs.drop k).take 4)
def readS (zs : List Nat) : Sup := ⟨genAt zs 4, numAt zs 12, numAt zs 16, numAt zs 20, numAt zs 24, numAt zs 28, numAt zs 32, numAt zs 36⟩
theorem small_part {zs : List Nat} (h : ∀ z ∈ zs, z < 256) (a b : Nat) : ∀ z ∈ (zs.drop a).take b, z < 256 := fun z hz => h z (List.mem_of_mem_drop (List.mem_of_mem_take hz))
theorem getO_range (zs : List Nat) : -9223372036854775808 ≤ getO zs ∧ getO zs ≤ 9223372036854775807 := by
  unfold getO getI wrap64; omega
theorem getO_four (zs : List Nat) (h : ∀ z ∈ zs, z < 256) (hl : zs.length ≤ 4) : 0 ≤ getO zs ∧ getO zs ≤ 4294967295 := by
  have h1 := getL_lt zs h
  have h2 : (256 : Nat) ^ zs.length ≤ 4294967296 := by
    have : zs.length = 0 ∨ zs.length = 1 ∨ zs.length = 2 ∨ zs.length = 3 ∨ zs.length = 4 := by omega
    rcases this with e | e | e | e | e <;> rw [e] <;> decide
  unfold getO getI
  rw [List.take_of_length_le (by rw [List.length_map]; omega), getN_getL]
  unfold wrap64
  omega
theorem genAt_range (zs : List Nat) (k : Nat) : -9223372036854775808 ≤ genAt zs k ∧ genAt zs k ≤ 9223372036854775807 := getO_range _
theorem numAt_range {zs : List Nat} (h : ∀ z ∈ zs, z < 256) (k : Nat) : 0 ≤ numAt zs k ∧ numAt zs k ≤ 4294967295 := getO_four _ (small_part h _ _) (by rw [List.length_take]; omega)
theorem sgn_full (n : Int) (h1 : -9223372036854775808 ≤ n) (h2 : n ≤ 9223372036854775807) : sgnI n 64 = n := by
  unfold sgnI; rw [show (2 : Int) ^ 64 = 18446744073709551616 by rfl]; split <;> omega
theorem readS_fits {zs : List Nat} (h : ∀ z ∈ zs, z < 256) : (readS zs).Fits := by
  have a := numAt_range h 12
  have b := numAt_range h 16
  have c := numAt_range h 20
  have d := numAt_range h 24
  have e := numAt_range h 28
  have f := numAt_range h 32
  have g := numAt_range h 36
  have i := genAt_range zs 4
  constructor <;> simp only [readS] <;> omega

/-- The superblock whose sector it is. -/
def toldB (zs : List Nat) : Bool := okS (readS zs) && decide (sect (readS zs) = zs)
def toldS (zs : List Nat) : Option Sup := if toldB zs = true then some (readS zs) else none
theorem toldS_some {zs : List Nat} {s : Sup} (h : toldS zs = some s) : okS s = true ∧ sect s = zs ∧ s = readS zs := by
  unfold toldS toldB at h
  split at h
  · rename_i hb
    simp only [Bool.and_eq_true, decide_eq_true_eq] at hb
    obtain rfl := Option.some.inj h
    exact ⟨hb.1, hb.2, rfl⟩
  · cases h

/-! ### There and back -/
theorem getN_octL5 (n : Int) (k : Nat) : getN (octL n k) = n % 2 ^ (8 * k) := by
  induction k with
  | zero => simp [octL, getN]
  | succ k ih =>
    rw [octL_succ, getN_snoc, ih, octL_length]
    unfold octet
    have hp := two_pow_pos (8 * k)
    have e : (2 : Int) ^ (8 * (k + 1)) = 2 ^ (8 * k) * 256 := by
      rw [show (256 : Int) = 2 ^ 8 by rfl, ← Int.pow_add, show 8 * k + 8 = 8 * (k + 1) by omega]
    rw [e]
    generalize (2 : Int) ^ (8 * k) = m at *
    have e1 := Int.mul_ediv_add_emod n m
    have r0 := Int.emod_nonneg n (Int.ne_of_gt hp)
    have r1 := Int.emod_lt_of_pos n hp
    have q := Int.mul_ediv_add_emod (n / m) 256
    have hn : n = (n % m + m * (n / m % 256)) + m * 256 * (n / m / 256) := by
      have : m * (n / m) = m * (256 * (n / m / 256) + n / m % 256) := by rw [q]
      rw [Int.mul_add, ← Int.mul_assoc] at this
      omega
    have b0 : 0 ≤ n / m % 256 ∧ n / m % 256 ≤ 255 := by omega
    have h5 : m * (n / m % 256) ≤ m * 255 := Int.mul_le_mul_of_nonneg_left b0.2 (Int.le_of_lt hp)
    have h6 : 0 ≤ m * (n / m % 256) := Int.mul_nonneg (Int.le_of_lt hp) b0.1
    have h3 : (n % m + m * (n / m % 256) + m * 256 * (n / m / 256)) % (m * 256) = n % m + m * (n / m % 256) := by
      rw [Int.add_mul_emod_self_left]
      exact Int.emod_eq_of_lt (by omega) (by omega)
    rw [← hn] at h3
    exact h3.symm
theorem octZ_ints5 (n : Int) (k : Nat) : (octZ n k).map Int.ofNat = octL n k := by
  unfold octZ octL
  rw [List.map_map, List.map_map]
  apply List.map_congr_left
  intro i _
  have := octet_bd n i
  simp only [Function.comp, Int.ofNat_eq_natCast]
  omega
theorem getO_octZ (n : Int) (k : Nat) (hk : k ≤ 8) : getO (octZ n k) = wrap64 (n % 2 ^ (8 * k)) := by
  unfold getO getI
  rw [octZ_ints5, List.take_of_length_le (by rw [octL_length]; omega), getN_octL5]
theorem getO_octZ8 (n : Int) (h1 : -9223372036854775808 ≤ n) (h2 : n ≤ 9223372036854775807) : getO (octZ n 8) = n := by
  rw [getO_octZ n 8 (by decide), show (2 : Int) ^ (8 * 8) = 18446744073709551616 by rfl]
  unfold wrap64; omega
theorem getO_octZ4 (n : Int) (h1 : 0 ≤ n) (h2 : n ≤ 4294967295) : getO (octZ n 4) = n := by
  rw [getO_octZ n 4 (by decide), show (2 : Int) ^ (8 * 4) = 4294967296 by rfl]
  unfold wrap64; omega
theorem octZ4_list (n : Int) : ∃ a b c d, octZ n 4 = [a, b, c, d] := ⟨_, _, _, _, by simp [octZ, octL, List.range_succ]; exact ⟨rfl, rfl, rfl, rfl⟩⟩
theorem octZ8_list (n : Int) : ∃ a b c d e f g h, octZ n 8 = [a, b, c, d, e, f, g, h] := ⟨_, _, _, _, _, _, _, _, by simp [octZ, octL, List.range_succ]; exact ⟨rfl, rfl, rfl, rfl, rfl, rfl, rfl, rfl⟩⟩
theorem take_drop_mid {α : Type} (A B C : List α) (a b : Nat) (ha : A.length = a) (hb : B.length = b) : ((A ++ (B ++ C)).drop a).take b = B := by
  subst ha; subst hb; simp
/-- Each field in its place, whatever stands behind what is sealed. -/
theorem body_parts (s : Sup) (ts : List Nat) : ((body s ++ ts).drop 4).take 8 = octZ s.gen 8 ∧ ((body s ++ ts).drop 12).take 4 = octZ s.journal 4 ∧ ((body s ++ ts).drop 16).take 4 = octZ s.area 4 ∧ ((body s ++ ts).drop 20).take 4 = octZ s.which 4 ∧
    ((body s ++ ts).drop 24).take 4 = octZ s.len 4 ∧ ((body s ++ ts).drop 28).take 4 = octZ s.sum 4 ∧ ((body s ++ ts).drop 32).take 4 = octZ s.epoch 4 ∧ ((body s ++ ts).drop 36).take 4 = octZ s.start 4 ∧ ((body s ++ ts).drop 116).take 8 = octZ s.gen 8 := by
  have e1 := octZ_length s.gen 8
  have e2 := octZ_length s.journal 4
  have e3 := octZ_length s.area 4
  have e4 := octZ_length s.which 4
  have e5 := octZ_length s.len 4
  have e6 := octZ_length s.sum 4
  have e7 := octZ_length s.epoch 4
  have e8 := octZ_length s.start 4
  unfold body fieldsN numsS
  simp only [List.flatMap_cons, List.flatMap_nil, List.append_nil, List.append_assoc]
  generalize octZ s.gen 8 = G at *
  generalize octZ s.journal 4 = J at *
  generalize octZ s.area 4 = A at *
  generalize octZ s.which 4 = W at *
  generalize octZ s.len 4 = L at *
  generalize octZ s.sum 4 = U at *
  generalize octZ s.epoch 4 = E at *
  generalize octZ s.start 4 = T at *
  refine ⟨?_, ?_, ?_, ?_, ?_, ?_, ?_, ?_, ?_⟩
  · exact take_drop_mid [77, 79, 84, 72] G _ 4 8 rfl e1
  · rw [← List.append_assoc [77, 79, 84, 72]]; exact take_drop_mid _ J _ 12 4 (by simp; omega) e2
  · rw [← List.append_assoc [77, 79, 84, 72], ← List.append_assoc _ J]; exact take_drop_mid _ A _ 16 4 (by simp; omega) e3
  · rw [← List.append_assoc [77, 79, 84, 72], ← List.append_assoc _ J, ← List.append_assoc _ A]; exact take_drop_mid _ W _ 20 4 (by simp; omega) e4
  · rw [← List.append_assoc [77, 79, 84, 72], ← List.append_assoc _ J, ← List.append_assoc _ A, ← List.append_assoc _ W]; exact take_drop_mid _ L _ 24 4 (by simp; omega) e5
  · rw [← List.append_assoc [77, 79, 84, 72], ← List.append_assoc _ J, ← List.append_assoc _ A, ← List.append_assoc _ W, ← List.append_assoc _ L]; exact take_drop_mid _ U _ 28 4 (by simp; omega) e6
  · rw [← List.append_assoc [77, 79, 84, 72], ← List.append_assoc _ J, ← List.append_assoc _ A, ← List.append_assoc _ W, ← List.append_assoc _ L, ← List.append_assoc _ U]; exact take_drop_mid _ E _ 32 4 (by simp; omega) e7
  · rw [← List.append_assoc [77, 79, 84, 72], ← List.append_assoc _ J, ← List.append_assoc _ A, ← List.append_assoc _ W, ← List.append_assoc _ L, ← List.append_assoc _ U, ← List.append_assoc _ E]; exact take_drop_mid _ T _ 36 4 (by simp; omega) e8
  · rw [← List.append_assoc [77, 79, 84, 72], ← List.append_assoc _ J, ← List.append_assoc _ A, ← List.append_assoc _ W, ← List.append_assoc _ L, ← List.append_assoc _ U, ← List.append_assoc _ E, ← List.append_assoc _ T, ← List.append_assoc _ (List.replicate 76 0)]; exact take_drop_mid _ G _ 116 8 (by simp; omega) e1
theorem readS_body (s : Sup) (ts : List Nat) (hf : s.Fits) (hr : okS s = true) : readS (body s ++ ts) = s := by
  obtain ⟨h1, h2, h3, h4, h5, h6, h7, h8, _⟩ := body_parts s ts
  have hR := okS_right.1 hr
  have ⟨a, b, c, d, e, f, g⟩ := hR
  have fs := hf.sum
  have fg := hf.gen
  apply Sup.ext <;> simp only [readS, genAt, numAt]
  · rw [h1]; exact getO_octZ8 _ fg.1 fg.2
  · rw [h2]; exact getO_octZ4 _ (by omega) (by omega)
  · rw [h3]; exact getO_octZ4 _ (by omega) (by omega)
  · rw [h4]; exact getO_octZ4 _ (by omega) (by omega)
  · rw [h5]; exact getO_octZ4 _ (by omega) (by omega)
  · rw [h6]; exact getO_octZ4 _ (by omega) (by omega)
  · rw [h7]; exact getO_octZ4 _ (by omega) (by omega)
  · rw [h8]; exact getO_octZ4 _ (by omega) (by omega)
theorem readS_sect (s : Sup) (hf : s.Fits) (hr : okS s = true) : readS (sect s) = s := readS_body s _ hf hr
theorem toldS_sect (s : Sup) (hf : s.Fits) (hr : okS s = true) : toldS (sect s) = some s := by
  unfold toldS toldB
  rw [readS_sect s hf hr, hr, decide_eq_true rfl]; rfl

/-! ### One octet turned -/
theorem set_getD (l : List Nat) (k d : Nat) (h : k < l.length) (hd : d ≠ l[k]?.getD 0) : l.set k d ≠ l := by
  intro e
  have := congrArg (fun x => x[k]?.getD 0) e
  simp [h] at this
  rw [List.getElem?_eq_getElem h] at hd
  exact hd (by simpa using this)
theorem turned_told (s : Sup) (k d : Nat) (hk : k < 128) (hd : d < 256) (hn : d ≠ (sect s)[k]?.getD 0) : toldS ((sect s).set k d) = none := by
  cases h : toldS ((sect s).set k d) with
  | none => rfl
  | some t =>
    exfalso
    obtain ⟨_, h2, _⟩ := toldS_some h
    have hs := sealedB_seal (body s) (body_small s)
    have ht := sealedB_seal (body t) (body_small t)
    have hz := sect_small s
    have hx : (sect s)[k]?.getD 0 < 256 := by
      rw [List.getElem?_eq_getElem (by rw [sect_length]; exact hk)]
      exact hz _ (List.getElem_mem _)
    have hnum := numN_set (sect s) k ((sect s)[k]?.getD 0 ^^^ d) (by rw [sect_length]; exact hk) hz (Nat.xor_lt_two_pow (n := 8) hx hd)
    rw [← Nat.xor_assoc, Nat.xor_self, Nat.zero_xor, show (256 : Nat) ^ k = 2 ^ (8 * k) by rw [Nat.pow_mul]] at hnum
    have hno := turned_no (sect s) ((sect s).set k d) (8 * k) ((sect s)[k]?.getD 0 ^^^ d) hz (set_small _ _ _ hz hd) (by simp) (by rw [sect_length]; decide) hs (by rw [sect_length]; omega)
      (Nat.lt_of_lt_of_le (Nat.xor_lt_two_pow (n := 8) hx hd) (by decide)) (fun e => hn (xor_eq_zero e).symm) hnum
    rw [← h2] at hno
    rw [show sealedB (sect t) = true from ht] at hno
    cases hno

/-! ### Two sectors -/
def evenS (o : Option Sup) : Option Sup := match o with | some s => if s.gen % 2 = 0 then some s else none | none => none
def oddS (o : Option Sup) : Option Sup := match o with | some s => if s.gen % 2 = 1 then some s else none | none => none
def pickS (a b : Option Sup) : Option Sup := match a, b with | some x, some y => if y.gen < x.gen then some x else some y | some x, none => some x | none, o => o
def newestS (zs : List Nat) : Option Sup := if zs.length = 256 then pickS (evenS (toldS (zs.take 128))) (oddS (toldS (zs.drop 128))) else none
def topStep (t n : Int) : Int := if n ≤ 281474976710656 then (if t < n then n else t) else t
def topS (zs : List Nat) : Int := if zs.length = 256 then topStep (topStep (topStep (topStep 0 (genAt zs 4)) (genAt zs 116)) (genAt zs 132)) (genAt zs 244) else 0
end Go.Proofs.YtjhkcdnfnmglhaaGreatDoor

/- A list of mapped pages out of octets, and there and back. No Go in sight but the words for octets. -/
namespace Go.Proofs.YtjhkcdnfnmglhaaGreatDoor
open Go.RowKit
set_option linter.unusedVariables false

theorem getO_bd {zs : List Nat} (h : ∀ z ∈ zs, z < 256) {k : Nat} (hl : zs.length = k) (hk : k ≤ 6) : 0 ≤ getO zs ∧ getO zs < 2 ^ (8 * k) := by
  have h1 := getN_bd (zs.map Int.ofNat) (fun b hb => by
    rw [List.mem_map] at hb
    obtain ⟨y, hy, rfl⟩ := hb
    have := h y hy
    simp only [Int.ofNat_eq_natCast]; omega)
  rw [List.length_map, hl] at h1
  have h2 : (2 : Int) ^ (8 * k) ≤ 281474976710656 := by
    have : k = 0 ∨ k = 1 ∨ k = 2 ∨ k = 3 ∨ k = 4 ∨ k = 5 ∨ k = 6 := by omega
    rcases this with e | e | e | e | e | e | e <;> rw [e] <;> decide
  unfold getO getI
  rw [List.take_of_length_le (by rw [List.length_map]; omega)]
  unfold wrap64
  omega
/-- A page out of its octets. -/
def recG (x : List Nat) : Md := ⟨getO (x.take 4) / 4096, getO (x.take 4) % 4096, getO ((x.drop 4).take 4), getO ((x.drop 8).take 6), (getO ((x.drop 14).take 4)).toNat⟩
def sliceG (zs : List Nat) (i : Nat) : List Nat := (zs.drop (4 + 18 * i)).take 18
def listG (zs : List Nat) (k : Nat) : List Md := (List.range k).map fun i => recG (sliceG zs i)
theorem listG_length (zs : List Nat) (k : Nat) : (listG zs k).length = k := by simp [listG]
theorem listG_succ (zs : List Nat) (k : Nat) : listG zs (k + 1) = listG zs k ++ [recG (sliceG zs k)] := by simp [listG, List.range_succ]
def cntG (zs : List Nat) : Nat := (getO (zs.take 4)).toNat
def fitsG (zs : List Nat) : Bool := decide (4 ≤ zs.length ∧ cntG zs ≤ zs.length / 18 ∧ 4 + 18 * cntG zs ≤ zs.length)
/-- The list at the beginning of octets; none: there is none. -/
def getM (n : Int) (zs : List Nat) : Option (List Md) := if fitsG zs = true ∧ rightM n (listG zs (cntG zs)) = true then some (listG zs (cntG zs)) else none
theorem getM_some {n : Int} {zs : List Nat} {l : List Md} (h : getM n zs = some l) : fitsG zs = true ∧ l = listG zs (cntG zs) ∧ rightM n l = true := by
  unfold getM at h
  split at h
  · rename_i hh
    injection h with e
    subst e
    exact ⟨hh.1, rfl, hh.2⟩
  · cases h
theorem getO_octZ6 (n : Int) (h1 : 0 ≤ n) (h2 : n ≤ 281474976710655) : getO (octZ n 6) = n := by
  rw [getO_octZ n 6 (by decide), show (2 : Int) ^ (8 * 6) = 281474976710656 by rfl]
  unfold wrap64; omega
theorem recG_recM {m : Md} (hR : isR m.k = true) (hs : 0 ≤ m.s ∧ m.s ≤ 4294967295) (hg : 0 ≤ m.g ∧ m.g ≤ 281474976710655) (hu : m.u < 4294967296) : recG (recM m) = m := by
  obtain ⟨h, p, s, g, u⟩ := m
  have hr := isR_iff.1 hR
  have hR' : isR (h, p) = true := hR
  have e0 : numK (h, p) = 4096 * h + p := by unfold numK; rw [if_pos hR']
  simp only [Md.k] at hr hR
  simp only at hs hg hu
  have q0 : ((recM ⟨h, p, s, g, u⟩).drop 0).take 4 = octZ (numK (h, p)) 4 := by
    rw [recM, List.append_assoc, List.append_assoc]
    exact take_drop_mid [] _ _ 0 4 rfl (octZ_length _ _)
  have q1 : ((recM ⟨h, p, s, g, u⟩).drop 4).take 4 = octZ s 4 := by
    rw [recM, List.append_assoc, List.append_assoc]
    exact take_drop_mid _ _ _ 4 4 (octZ_length _ _) (octZ_length _ _)
  have q2 : ((recM ⟨h, p, s, g, u⟩).drop 8).take 6 = octZ g 6 := by
    rw [recM, List.append_assoc (octZ _ 4 ++ octZ s 4)]
    exact take_drop_mid _ _ _ 8 6 (by simp [octZ_length]) (octZ_length _ _)
  have q3 : ((recM ⟨h, p, s, g, u⟩).drop 14).take 4 = octZ (u : Nat) 4 := by
    have := take_drop_mid (octZ (numK (h, p)) 4 ++ octZ s 4 ++ octZ g 6) (octZ (u : Nat) 4) [] 14 4 (by simp [octZ_length]) (octZ_length _ _)
    rwa [List.append_nil] at this
  rw [List.drop_zero] at q0
  unfold recG
  rw [q0, q1, q2, q3, getO_octZ4 _ (by rw [e0]; omega) (by rw [e0]; omega), getO_octZ4 s hs.1 hs.2, getO_octZ6 g hg.1 hg.2, getO_octZ4 (u : Nat) (by omega) (by omega), e0]
  simp only [Md.mk.injEq, and_true, Int.toNat_natCast]
  omega
theorem recs_drop (b : List Nat) : ∀ (l : List Md) (i : Nat), i ≤ l.length → (l.flatMap recM ++ b).drop (18 * i) = (l.drop i).flatMap recM ++ b
  | l, 0, _ => by simp
  | [], i + 1, h => by simp at h
  | m :: r, i + 1, h => by
    rw [List.flatMap_cons, List.append_assoc, List.drop_append, List.drop_eq_nil_of_le (by rw [recM_length]; omega), List.nil_append, recM_length, show 18 * (i + 1) - 18 = 18 * i by omega, List.drop_succ_cons]
    exact recs_drop b r i (by simpa using h)
theorem slice_put {l : List Md} {b : List Nat} {i : Nat} {m : Md} (h : l[i]? = some m) : sliceG (putM l ++ b) i = recM m := by
  have hi := (List.getElem?_eq_some_iff.1 h).1
  unfold sliceG putM
  rw [List.append_assoc, List.drop_append, List.drop_eq_nil_of_le (by rw [octZ_length]; omega), List.nil_append, octZ_length, show 4 + 18 * i - 4 = 18 * i by omega, recs_drop b l i (by omega)]
  have e : l.drop i = m :: l.drop (i + 1) := by
    rw [List.drop_eq_getElem_cons hi]
    congr 1
    exact (List.getElem?_eq_some_iff.1 h).2
  rw [e, List.flatMap_cons, List.append_assoc, List.take_append_of_le_length (by rw [recM_length]; omega), List.take_of_length_le (by rw [recM_length]; omega)]
theorem cntG_put {l : List Md} {b : List Nat} (hl : l.length ≤ 4294967295) : cntG (putM l ++ b) = l.length := by
  unfold cntG putM
  rw [List.append_assoc, List.take_append_of_le_length (by rw [octZ_length]; omega), List.take_of_length_le (by rw [octZ_length]; omega), getO_octZ4 _ (by omega) (by omega), Int.toNat_natCast]
theorem rightM_ok {n : Int} {l : List Md} {i : Nat} {m : Md} (h : rightM n l = true) (hi : l[i]? = some m) : okM n m = true := by
  unfold rightM at h
  rw [List.all_eq_true] at h
  have h1 := h i (List.mem_range.2 (List.getElem?_eq_some_iff.1 hi).1)
  rw [stepM_at hi] at h1
  simp only [Bool.and_eq_true] at h1
  exact h1.1.1
/-- There and back. -/
theorem get_put {n : Int} {l : List Md} {b : List Nat} (hr : rightM n l = true) (hn : n ≤ 4294967296) (hl : l.length ≤ 1000) (hu : ∀ m ∈ l, m.u < 4294967296) : getM n (putM l ++ b) = some l := by
  have hc := cntG_put (l := l) (b := b) (by omega)
  have hf : fitsG (putM l ++ b) = true := by
    unfold fitsG
    rw [hc]
    have := putM_length l
    apply decide_eq_true
    rw [List.length_append, this]
    omega
  have hL : listG (putM l ++ b) l.length = l := by
    apply List.ext_getElem?
    intro i
    unfold listG
    rw [List.getElem?_map]
    rcases Nat.lt_or_ge i l.length with hi | hi
    · rw [List.getElem?_range hi, Option.map_some]
      have he : l[i]? = some l[i] := List.getElem?_eq_getElem hi
      have ho := rightM_ok hr he
      unfold okM at ho
      simp only [Bool.and_eq_true, decide_eq_true_eq] at ho
      rw [slice_put he, recG_recM ho.1 (by omega) (by omega) (hu _ (List.getElem_mem _)), he]
    · rw [List.getElem?_eq_none (by simpa using hi), List.getElem?_eq_none hi]
      rfl
  unfold getM
  rw [hc, hL, if_pos ⟨hf, hr⟩]
end Go.Proofs.YtjhkcdnfnmglhaaGreatDoor

/- The document's Get of a list of mapped pages. (Written by wip/mk_refget11.py.) -/
namespace Go.Proofs.YtjhkcdnfnmglhaaGreatDoor
open Go.RowKit
set_option linter.unusedVariables false

/-- A mapped page in a block of its own. -/
def MdAt (w : World) (b : Nat) (m : Md) : Prop := w.heap[b]? = some (.cells #[.int .i64 m.h, .int .i64 m.p, .int .i64 m.s, .int .i64 m.g, .int .u32 (m.u : Nat)] 56 (0, 0))
theorem MdAt.cells {w : World} {b : Nat} {m : Md} (h : MdAt w b m) : w.cell? ⟨b, 0, none⟩ = some (.int .i64 m.h) ∧ w.cell? ⟨b, 1, none⟩ = some (.int .i64 m.p) ∧ w.cell? ⟨b, 2, none⟩ = some (.int .i64 m.s) ∧ w.cell? ⟨b, 3, none⟩ = some (.int .i64 m.g) ∧ w.cell? ⟨b, 4, none⟩ = some (.int .u32 (m.u : Nat)) := by
  refine ⟨?_, ?_, ?_, ?_, ?_⟩ <;> rw [cell_of_row _ _ _ _ _ _ h] <;> rfl
theorem MdAt.below {w w' : World} {b : Nat} {m : Md} (h : MdAt w b m) (hb : Below w.heap.size w w') : MdAt w' b m := (hb.block b (lt_of_heap h)).trans h
theorem MdAt.frozen {w : World} {b : Nat} {m : Md} (h : MdAt w b m) (i : Nat) : w.frozen? ⟨b, i, none⟩ = false := by
  simp [World.frozen?, show w.heap[b]? = _ from h]
theorem MdAt.set_s {w : World} {b : Nat} {m : Md} (h : MdAt w b m) (v : Int) : MdAt (w.setCell ⟨b, 2, none⟩ (.int .i64 v)) b { m with s := v } := (heap_set_row h 2 _).trans rfl
theorem MdAt.set_g {w : World} {b : Nat} {m : Md} (h : MdAt w b m) (v : Int) : MdAt (w.setCell ⟨b, 3, none⟩ (.int .i64 v)) b { m with g := v } := (heap_set_row h 3 _).trans rfl
theorem MdAt.set_u {w : World} {b : Nat} {m : Md} (h : MdAt w b m) (v : Nat) : MdAt (w.setCell ⟨b, 4, none⟩ (.int .u32 (v : Nat))) b { m with u := v } := (heap_set_row h 4 _).trans rfl
theorem own_below11 {w w' : World} {base n k : Nat} {e : TypeId} {v : Value} {xs : List Value} (h : w.ownsRow base e k v n xs) (hb : Below w.heap.size w w') : w'.ownsRow base e k v n xs :=
  ownsRow_same h fun g hg => by
    rcases h.2 with ⟨rfl, _⟩ | ⟨g', cap, cur, rfl, _, hgg, _⟩
    · simp [Value.ownBlock] at hg
    · simp [Value.ownBlock] at hg
      subst hg
      exact hb.block _ (lt_of_heap hgg)
theorem below_grownK {B k : Nat} {w w' : World} {e : TypeId} {v : Value} {n : Nat} {xs : List Value} (hown : w.ownsRow B e k v n xs) (hg : w.grownBy w' v.ownBlock) (hB : B ≤ w.heap.size) : Below B w w' :=
  (Below.refl B w).grown hg hB fun j hj => (hown.lt j hj).1
theorem Tryz.infoM11 : (Tryz.prog.info? 56).map (fun i => (i.zero, i.size, i.bytes)) = some (some (.agg #[.int .i64 0, .int .i64 0, .int .i64 0, .int .i64 0, .int .u32 0]), 5, 40) := by kernel_rfl
theorem els_one11 {w : World} {m : Nat} {x : Md} {e : TypeId} (h : w.heap.size = m) : Els encM 5 (w.alloc (.cells (encM x).toArray e)) (.slice (some ⟨m, 0, none⟩) 1 1) [x] := by subst h; exact Els.one encM_ok
/-- How many octets an answer has. -/
def ansC : Option (List Md) → Int
  | none => 0
  | some l => 4 + 18 * (l.length : Nat)
theorem slice_len {zs : List Nat} {k i : Nat} (h : 4 + 18 * k ≤ zs.length) (hi : i < k) : (sliceG zs i).length = 18 := by
  rw [sliceG, List.length_take, List.length_drop]; omega
theorem part_small {zs : List Nat} (h : ∀ z ∈ zs, z < 256) (a b : Nat) : ∀ z ∈ (zs.drop a).take b, z < 256 := fun z hz => h z (List.mem_of_mem_drop (List.mem_of_mem_take hz))

end Go.Proofs.YtjhkcdnfnmglhaaGreatDoor
