/- The walk of the law 'IntsOctets': it returns true for every input. -/
import Derived.Test.YteimcdfinchciaaLawUps
import Derived.Test.YteimcdfinchciaaWalkOct
import Derived.Test.YteimcdfinchciaaOpens
import Derived.Deep.RegionWith
namespace Go.Proofs.Yteimcdfinchciaa
open Go.RowKit
set_option linter.unusedVariables false

theorem cell_lt {w : World} {a : Addr} {v : Value} (h : w.cell? a = some v) : a.block < w.heap.size := by
  by_cases hb : a.block < w.heap.size
  · exact hb
  · unfold World.cell? at h
    rw [Array.getElem?_eq_none (by omega)] at h
    simp at h

/-- A row of octets that came in, in a world that kept it: its elements as a list, and either there are none or it lies at a plain address. -/
theorem row_oct {w w' : World} {a : Option Addr} {len cap : Nat} {zs : List Int} (h : IsRow .u8 w a len cap zs) (hb : Below w.heap.size w w') :
    (zs.take len).length = len ∧ len ≤ 9223372036854775807 ∧ (∀ z ∈ zs.take len, 0 ≤ z ∧ z ≤ 255) ∧
    (len = 0 ∨ ∃ b off, a = some ⟨b, off, none⟩ ∧ b < w.heap.size ∧ ∀ j, j < (zs.take len).length → w'.cell? ⟨b, off + j, none⟩ = some (.int .u8 ((zs.take len)[j]?.getD 0))) := by
  rcases h with ⟨rfl, rfl, rfl, rfl⟩ | ⟨x, rfl, hl, hm, hz, hc, hw⟩
  · exact ⟨rfl, by omega, by simp, .inl rfl⟩
  · unfold maxLen at hm
    have hlen : (zs.take len).length = len := by rw [List.length_take]; omega
    refine ⟨hlen, by omega, fun z hz' => ?_, ?_⟩
    · have := hw z (List.mem_of_mem_take hz')
      simpa [Lit.wf, IntKind.min, IntKind.max, IntKind.signed, IntKind.bits] using this
    · by_cases h0 : len = 0
      · exact .inl h0
      · right
        obtain ⟨b, off, rfl, hc'⟩ := ints_at hc (by omega)
        have hblk : b < w.heap.size := cell_lt (hc' 0 (by omega))
        refine ⟨b, off, rfl, hblk, fun j hj => ?_⟩
        rw [hb.cell (p := ⟨b, off + j, none⟩) hblk, hc' j (by omega)]
        rw [hlen] at hj
        rw [List.getElem?_take_of_lt hj]
        simp [List.getD]

theorem get_row (a : Option Addr) (len cap : Nat) (zs : List Int) (w w' : World) (h : IsRow .u8 w a len cap zs) (hb : Below w.heap.size w w') :
    Calls Try.prog 12 #[.slice a len cap] w' fun e w2 => e = .returned (.int .i64 (getI (zs.take len))) ∧ w2 = w' := by
  obtain ⟨h1, h2, h3, h4⟩ := row_oct h hb
  rcases h4 with rfl | ⟨b, off, rfl, hblk, hc⟩
  · simpa using get_empty a cap w'
  · have := get_any b off cap (zs.take len) w' h3 (by omega) hc
    rwa [h1] at this
theorem refGet_row (a : Option Addr) (len cap : Nat) (zs : List Int) (w w' : World) (h : IsRow .u8 w a len cap zs) (hb : Below w.heap.size w w') :
    Calls Try.prog 13 #[.slice a len cap] w' fun e w2 => e = .returned (.int .i64 (getI (zs.take len))) ∧ Below w'.heap.size w' w2 := by
  obtain ⟨h1, h2, h3, h4⟩ := row_oct h hb
  rcases h4 with rfl | ⟨b, off, rfl, hblk, hc⟩
  · refine (refGet_empty a cap w').mono ?_
    rintro e w2 ⟨rfl, rfl⟩
    exact ⟨by simp, Below.refl _ _⟩
  · have := refGet_any b off cap (zs.take len) w' h3 (by omega) (Nat.lt_of_lt_of_le hblk hb.size) hc
    rwa [h1] at this

theorem octL_oct (n : Int) (k : Nat) : ∀ z ∈ octL n k, 0 ≤ z ∧ z ≤ 255 := by
  intro z hz
  simp only [octL, List.mem_map] at hz
  obtain ⟨i, _, rfl⟩ := hz
  unfold octet; omega
/-- 'Get' of what 'Lay' made. -/
theorem get_laid (n : Int) (k g : Nat) (w : World) (hk : k ≤ 8) (h : ∀ j, j < k → w.cell? ⟨g, j, none⟩ = some (.int .u8 (octet n j))) :
    Calls Try.prog 12 #[.slice (some ⟨g, 0, none⟩) k k] w fun e w2 => e = .returned (.int .i64 (getI (octL n k))) ∧ w2 = w := by
  have := get_any g 0 k (octL n k) w (octL_oct n k) (by rw [octL_length]; omega) (fun j hj => by
    rw [octL_length] at hj
    rw [Nat.zero_add, h j hj]
    simp [octL, hj])
  rwa [octL_length] at this
theorem getN_octL (n : Int) (k : Nat) : getN (octL n k) = n % 2 ^ (8 * k) := by
  induction k with
  | zero => simp [octL, getN]
  | succ k ih =>
    rw [octL_succ, getN_snoc, ih, octL_length]
    unfold octet
    have hp := two_pow_pos (8 * k)
    have e : (2 : Int) ^ (8 * (k + 1)) = 2 ^ (8 * k) * 256 := by
      rw [show (256 : Int) = 2 ^ 8 by rfl, ← Int.pow_add, show 8 * k + 8 = 8 * (k + 1) by omega]
    rw [e]
    generalize (2 : Int) ^ (8 * k) = m at *
    have e1 := Int.mul_ediv_add_emod n m
    have r0 := Int.emod_nonneg n (Int.ne_of_gt hp)
    have r1 := Int.emod_lt_of_pos n hp
    have q := Int.mul_ediv_add_emod (n / m) 256
    have hn : n = (n % m + m * (n / m % 256)) + m * 256 * (n / m / 256) := by
      have : m * (n / m) = m * (256 * (n / m / 256) + n / m % 256) := by rw [q]
      rw [Int.mul_add, ← Int.mul_assoc] at this
      omega
    have b0 : 0 ≤ n / m % 256 ∧ n / m % 256 ≤ 255 := by omega
    have h5 : m * (n / m % 256) ≤ m * 255 := Int.mul_le_mul_of_nonneg_left b0.2 (Int.le_of_lt hp)
    have h6 : 0 ≤ m * (n / m % 256) := Int.mul_nonneg (Int.le_of_lt hp) b0.1
    have h3 : (n % m + m * (n / m % 256) + m * 256 * (n / m / 256)) % (m * 256) = n % m + m * (n / m % 256) := by
      rw [Int.add_mul_emod_self_left]
      exact Int.emod_eq_of_lt (by omega) (by omega)
    rw [← hn] at h3
    exact h3.symm
theorem getI_octL (n : Int) (k : Nat) (hk : k ≤ 8) : getI (octL n k) = lowI n (8 * k) := by
  unfold getI lowI
  rw [List.take_of_length_le (by rw [octL_length]; omega), getN_octL]
theorem getI_octL8 (n : Int) (h1 : -9223372036854775808 ≤ n) (h2 : n ≤ 9223372036854775807) : getI (octL n 8) = n := by
  rw [getI_octL n 8 (by omega)]
  unfold lowI
  have e : (2 : Int) ^ (8 * 8) = 18446744073709551616 := by decide
  rw [e, wrap64_mod]
  unfold wrap64; omega

theorem below_undrew {B : Nat} {w w' : World} (h : Below B w.drew w') : Below B w w' := ⟨h.os, h.tape, h.output, h.size, h.block⟩
theorem conv_own {base n : Nat} {v : Value} {xs : List Int} {w : World} (h : w.ownsRow base 5 1 v n (xs.map (Value.int .u8))) :
    (convert 22 9 v).run Try.prog w = .ok (.string (strOfNums xs)) w := by
  have h1 := h.1
  simp at h1
  rcases h.2 with ⟨rfl, hn⟩ | ⟨g, cap, cur, rfl, hb, hg, hrest⟩
  · have : xs = [] := List.eq_nil_of_length_eq_zero (by omega)
    subst this
    exact run_convert_bytes_nil w 22 5 Try.underlying22 Try.underlying5 0 0 9 Try.underlying9
  · refine run_convert_bytes_arg w 22 5 Try.underlying22 Try.underlying5 g 0 n cap xs h1 ?_ 9 Try.underlying9
    intro j hj
    have := h.cells (g := g) rfl j (.int .u8 (xs.getD j 0)) (by simp [List.getElem?_map, List.getD, List.getElem?_eq_getElem (show j < xs.length by omega)])
    rw [addr_add] at this
    rw [Nat.zero_add]; exact this
theorem own_laid (n : Int) (k : Nat) (w : World) (hk : k ≤ 8) : (w.alloc (.cells ((octL n k).map (Value.int .u8)).toArray 5)).ownsRow w.heap.size 5 1 (.slice (some ⟨w.heap.size, 0, none⟩) k k) k ((octL n k).map (Value.int .u8)) := by
  refine ⟨by simp [octL_length], .inr ⟨w.heap.size, k, _, rfl, Nat.le_refl _, heap_alloc_new w _, Nat.le_refl _, by unfold maxLen; omega, by simp [octL_length], ?_⟩⟩
  rw [List.take_of_length_le (by simp [octL_length])]
theorem laid_cells (n : Int) (k : Nat) (w w' : World) (hb : Below (w.heap.size + 1) (w.alloc (.cells ((octL n k).map (Value.int .u8)).toArray 5)) w') : ∀ j, j < k → w'.cell? ⟨w.heap.size, j, none⟩ = some (.int .u8 (octet n j)) := by
  intro j hj
  rw [hb.cell (p := ⟨w.heap.size, j, none⟩) (by simp), World.cell?_alloc_at _ _ _ _ rfl]
  simp [octL, hj]
theorem own_kept {base B n : Nat} {e : TypeId} {v : Value} {xs : List Value} {w w' : World} (h : w.ownsRow base e 1 v n xs) (hb : Below B w w') (hB : w.heap.size ≤ B) : w'.ownsRow base e 1 v n xs :=
  h.kept (row := none) ⟨hb.os, hb.tape, hb.output, hb.size, fun k hk _ => hb.block k (by omega)⟩ (by cases hv : v.ownBlock <;> simp)

set_option maxHeartbeats 800000 in
theorem intsOctets_walk (n m : Int) (a : Option Addr) (len cap : Nat) (zs : List Int) (w : World) (w0 : (Lit.int .i64 n).wf = true) (w1 : (Lit.int .i64 m).wf = true) (hrow : IsRow .u8 w a len cap zs) :
    Calls Try.prog 3 #[.int .i64 n, .int .i64 m, .slice a len cap] w fun e w' => e = .returned (.bool true) ∧ Below w.heap.size w w' := by
  obtain ⟨n1, n2⟩ := bd_i64 w0
  clear w0 w1
  have hk := cl_le m 8
  have HR : Hid (IsRow .u8 w a len cap zs) := hrow
  have hlen : len ≤ 9223372036854775807 := (row_oct hrow (Below.refl _ _)).2.1
  clear hrow
  have E8 : Hid (cl 8 8 = 8) := by unfold Hid; decide
  have EC : Hid (cl (8 * (cl m 8 : Int)) 64 = 8 * cl m 8) := by
    show cl (8 * (cl m 8 : Int)) 64 = 8 * cl m 8
    generalize cl m 8 = k at *
    unfold cl; omega
  have HG8 : Hid (getI (octL n 8) = n) := getI_octL8 n n1 n2
  have HGk : Hid (getI (octL n (cl m 8)) = lowI n (8 * cl m 8)) := getI_octL n _ hk
  by_cases hbig : 300 < len
  · go_enter Try.func3, Try.ntmps3
    go_wp2_with fail
    refine (awake_any _).mono ?_
    rintro e w1 ⟨rfl, hb1⟩
    go_wp2_with fail
    refine (awake_any _).mono ?_
    rintro e w2 ⟨rfl, hb2⟩
    go_wp2
    go_ret
    exact ⟨rfl, hb1.trans (hb2.mono hb1.size)⟩
  · go_enter Try.func3, Try.ntmps3
    go_wp2_with fail
    refine (awake_any _).mono ?_
    rintro e w1 ⟨rfl, hb1⟩
    go_wp2_with fail
    refine (lay_any n m _).mono ?_
    rintro e w2 ⟨rfl, hw2⟩
    have ho := own_laid n (cl m 8) w1 hk
    rw [← hw2] at ho
    have hb2 : Below w.heap.size w w2 := by rw [hw2]; exact hb1.alloc hb1.size _
    have hs2 : w2.heap.size = w1.heap.size + 1 := by rw [hw2]; simp
    have hcx : (convert 22 9 (.slice (some ⟨w1.heap.size, 0, none⟩) (cl m 8) (cl m 8))).run Try.prog w2.drew = .ok (.string (strOfNums (octL n (cl m 8)))) w2.drew := conv_own ho.drew
    have HO : Hid (∀ w', Below w2.heap.size w2 w' → (convert 22 9 (.slice (some ⟨w1.heap.size, 0, none⟩) (cl m 8) (cl m 8))).run Try.prog w' = .ok (.string (strOfNums (octL n (cl m 8)))) w') := fun w' h => conv_own (own_kept ho h (Nat.le_refl _))
    have HL : Hid (∀ w', Below w2.heap.size w2 w' → ∀ j, j < cl m 8 → w'.cell? ⟨w1.heap.size, j, none⟩ = some (.int .u8 (octet n j))) := by
      intro w' h
      rw [hw2] at h
      exact laid_cells n (cl m 8) w1 w' (h.mono (by simp))
    have HB2 : Hid (Below w.heap.size w w2) := hb2
    clear hw2 ho hb2 hb1
    go_wp2_with fail
    go_region_with (first
      | (go_at_call 11; refine (refLay_any _ _ _).mono ?_; rintro e w3 ⟨v, rfl, hown, hb3d⟩; have hb3 := below_undrew hb3d; clear hb3d; have hc3 := HO.out w3 hb3; have HB3 : Hid (Below w.heap.size w w3) := HB2.out.trans (hb3.mono HB2.out.size); have hcv := conv_own hown; clear hown)
      | (go_at_call 12; refine (get_row a len cap zs w _ HR.out (by exact HB3.out)).mono ?_; rintro e w4 ⟨rfl, rfl⟩)
      | (go_at_call 13; refine (refGet_row a len cap zs w _ HR.out (by exact HB3.out)).mono ?_; rintro e w5 ⟨rfl, hb5⟩))
    all_goals go_wp2_with fail
    all_goals
      have HB5 : Hid (Below w.heap.size w w5) := HB3.out.trans (hb5.mono HB3.out.size)
      have HX5 : Hid (Below w2.heap.size w2 w5) := hb3.trans (hb5.mono hb3.size)
      have hs5 : w2.heap.size ≤ w5.heap.size := HX5.out.size
      clear hb5 hb3 hcx hc3 hcv HO HR
      refine (lay_any n 8 _).mono ?_
      rintro e w6 ⟨rfl, hw6⟩
      rw [E8.out] at hw6 ⊢
      have HL6 : Hid (∀ j, j < 8 → w6.cell? ⟨w5.heap.size, j, none⟩ = some (.int .u8 (octet n j))) := by
        rw [hw6]; exact laid_cells n 8 w5 _ (Below.refl _ _)
      have HX6 : Hid (Below w2.heap.size w2 w6) := by rw [hw6]; exact HX5.out.alloc hs5 _
      have HB6 : Hid (Below w.heap.size w w6) := by rw [hw6]; exact HB5.out.alloc HB5.out.size _
      clear hw6
      go_wp2_with fail
      refine (get_laid n 8 _ _ (by omega) HL6.out).mono ?_
      rintro e w7 ⟨rfl, rfl⟩
      rw [HG8.out]
      go_wp2_with fail
      refine (get_laid n (cl m 8) _ _ hk (HL.out _ HX6.out)).mono ?_
      rintro e w8 ⟨rfl, rfl⟩
      rw [HGk.out]
      go_wp2_with fail
      refine (refLow_any n (8 * (cl m 8 : Int)) _).mono ?_
      rintro e w9 ⟨rfl, hb9⟩
      rw [EC.out]
      have HB9 : Hid (Below w.heap.size w w9) := HB6.out.trans (hb9.mono HB6.out.size)
      clear hb9
      go_wp2
      go_ret
      exact ⟨rfl, HB9.out⟩
end Go.Proofs.Yteimcdfinchciaa
