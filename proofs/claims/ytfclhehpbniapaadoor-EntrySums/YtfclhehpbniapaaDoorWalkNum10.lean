/- Number and Of of package key, Less of the document. -/
import Derived.Test.YtfclhehpbniapaaDoorWalkKey10
namespace Go.Proofs.YtfclhehpbniapaaDoor
open Go.RowKit
set_option linter.unusedVariables false

theorem or_low (x y : Nat) (hx : x < 4096) (hy : y ≤ 64) : bits .or .i64 (4096 * y : Nat) (x : Nat) = ((4096 * y + x : Nat) : Int) := by
  show IntKind.i64.wrap ((BitVec.ofInt 64 ((4096 * y : Nat) : Int) ||| BitVec.ofInt 64 ((x : Nat) : Int)).toNat : Int) = _
  have hx' : x < 2 ^ 12 := hx
  have hy' : 4096 * y = 2 ^ 12 * y := rfl
  rw [BitVec.toNat_or, BitVec.ofInt_natCast, BitVec.ofInt_natCast, BitVec.toNat_ofNat, BitVec.toNat_ofNat, Nat.mod_eq_of_lt (by omega), Nat.mod_eq_of_lt (by omega), hy']
  rw [← Nat.two_pow_add_eq_or_of_lt hx', IntKind.wrap_i64]
  omega

theorem number_any (h p : Int) (w : World) :
    Calls Tryd.prog 13 #[.agg #[.int .i64 h, .int .i64 p]] w fun e w' => e = .returned (.int .i64 (numK (h, p))) ∧ Below w.heap.size w w' := by
  have HR : Hid (∀ W, Calls Tryd.prog 25 #[.agg #[.int .i64 h, .int .i64 p]] W fun e w' => e = .returned (.bool (isR (h, p))) ∧ Below W.heap.size W w') := right_any h p
  by_cases hr : isR (h, p) = true
  · have HN : Hid (numK (h, p) = 4096 * h + p) := by unfold Hid numK; rw [if_pos hr]
    rw [hr] at HR
    obtain ⟨b1, b2, b3, b4⟩ := isR_iff.1 hr
    simp only at b1 b2 b3 b4
    clear hr
    obtain ⟨H, rfl⟩ : ∃ H : Nat, h = (H : Int) := ⟨h.toNat, by rw [Int.toNat_of_nonneg]; omega⟩
    obtain ⟨Q, rfl⟩ : ∃ Q : Nat, p = (Q : Int) := ⟨p.toNat, by rw [Int.toNat_of_nonneg]; omega⟩
    have hH : H ≤ 64 := by omega
    have hQ : Q < 4096 := by omega
    have HO : Hid (bits .or .i64 (4096 * H : Nat) (Q : Nat) = ((4096 * H + Q : Nat) : Int)) := or_low Q H hQ hH
    have hs : ((H : Nat) : Int) * 4096 = ((4096 * H : Nat) : Int) := by omega
    obtain ⟨M, hM⟩ : ∃ M, M = 4096 * H := ⟨_, rfl⟩
    rw [← hM] at HO hs
    have hMb : M ≤ 262144 := by omega
    have HM : Hid (M = 4096 * H) := hM
    clear hM
    go_enter Tryd.func13, Tryd.ntmps13
    go_wp2_with fail
    refine (HR.out _).mono ?_
    rintro e w1 ⟨rfl, hB⟩
    have c0 : w1.cell? ⟨w.heap.size, 0, none⟩ = some (.int .i64 (H : Nat)) := (hB.cell (p := ⟨w.heap.size, 0, none⟩) (by simp)).trans (by simp)
    have c1 : w1.cell? ⟨w.heap.size, 1, none⟩ = some (.int .i64 (Q : Nat)) := (hB.cell (p := ⟨w.heap.size, 1, none⟩) (by simp)).trans (by simp)
    have HB : Hid (Below w.heap.size w w1) := ((Below.refl _ _).alloc (Nat.le_refl _) _).trans (hB.mono (by simp))
    clear hB HR
    go_wp2
    go_ret
    refine ⟨ret_int ?_, HB.out⟩
    rw [HN.out]
    have h1 := HO.out
    have h2 := HM.out
    first
      | (rw [h1]; omega)
      | (simp only [hs, h1]; omega)
      | trace_state
  · have HN : Hid (numK (h, p) = 0) := by unfold Hid numK; rw [if_neg hr]
    rw [Bool.eq_false_iff.2 hr] at HR
    clear hr
    go_enter Tryd.func13, Tryd.ntmps13
    go_wp2_with fail
    refine (HR.out _).mono ?_
    rintro e w1 ⟨rfl, hB⟩
    have HB : Hid (Below w.heap.size w w1) := ((Below.refl _ _).alloc (Nat.le_refl _) _).trans (hB.mono (by simp))
    clear hB HR
    go_wp2
    go_ret
    exact ⟨ret_int HN.out.symm, HB.out⟩

/-- The key of a number. -/
def ofK (n : Int) : Ky := if isR (n / 4096, n % 4096) = true then (n / 4096, n % 4096) else (0, 0)
theorem keyOf_any (n : Int) (hn : I64 n) (w : World) :
    Calls Tryd.prog 34 #[.int .i64 n] w fun e w' => e = .returned (.tuple #[.agg #[.int .i64 (ofK n).1, .int .i64 (ofK n).2], .bool (isR (n / 4096, n % 4096))]) ∧ Below w.heap.size w w' := by
  have hl : lowI n (cl 12 64) = n % 4096 := by
    have e : cl 12 64 = 12 := by decide
    rw [e]
    unfold lowI
    unfold wrap64
    omega
  have HL : Hid (∀ W, Calls Tryd.prog 38 #[.int .i64 n, .int .i64 12] W fun e w' => e = .returned (.int .i64 (n % 4096)) ∧ w' = W) := fun W => by
    have := low_any n 12 W
    rwa [hl] at this
  have HR : Hid (∀ W, Calls Tryd.prog 25 #[.agg #[.int .i64 (n / 4096), .int .i64 (n % 4096)]] W fun e w' => e = .returned (.bool (isR (n / 4096, n % 4096))) ∧ Below W.heap.size W w') := right_any _ _
  have hsh : n / (2 ^ 12 : Nat) = n / 4096 := by rfl
  obtain ⟨x, hx⟩ : ∃ x, x = n / 4096 := ⟨_, rfl⟩
  obtain ⟨y, hy⟩ : ∃ y, y = n % 4096 := ⟨_, rfl⟩
  have HO1 : Hid (isR (x, y) = true → ofK n = (x, y)) := fun h => by rw [hx, hy] at h; unfold ofK; rw [if_pos h, hx, hy]
  have HO2 : Hid (isR (x, y) = false → ofK n = (0, 0)) := fun h => by rw [hx, hy] at h; unfold ofK; rw [if_neg (by rw [h]; decide)]
  have hxb : -9223372036854775808 ≤ x ∧ x ≤ 9223372036854775807 := by obtain ⟨h1, h2⟩ := hn; omega
  obtain ⟨x1, x2⟩ := hxb
  rw [← hx, ← hy] at HR ⊢
  rw [← hy] at HL
  rw [← hx] at hsh
  have hx' : n / 4096 = x := hx.symm
  clear hl hn hx hy
  by_cases hr : isR (x, y) = true
  · have HV := HO1.out hr
    rw [HV]
    rw [hr] at HR ⊢
    clear HO1 HO2 hr HV
    go_enter Tryd.func34, Tryd.ntmps34
    go_wp2_with (go_at_call 38; refine (HL.out _).mono ?_; rintro e1 w1 ⟨rfl, rfl⟩)
    refine (HR.out _).mono ?_
    rintro e w1 ⟨rfl, hB⟩
    have c0 : w1.cell? ⟨w.heap.size + 1, 0, none⟩ = some (.int .i64 x) := (hB.cell (p := ⟨w.heap.size + 1, 0, none⟩) (by simp)).trans (by simp)
    have c1 : w1.cell? ⟨w.heap.size + 1, 1, none⟩ = some (.int .i64 y) := (hB.cell (p := ⟨w.heap.size + 1, 1, none⟩) (by simp)).trans (by simp)
    have d0 : w1.cell? ⟨w.heap.size, 0, none⟩ = some (.int .i64 0) := (hB.cell (p := ⟨w.heap.size, 0, none⟩) (by simp; omega)).trans (by simp)
    have d1 : w1.cell? ⟨w.heap.size, 1, none⟩ = some (.int .i64 0) := (hB.cell (p := ⟨w.heap.size, 1, none⟩) (by simp; omega)).trans (by simp)
    have e0 : w1.frozen? ⟨w.heap.size, 0, none⟩ = false := (hB.frozen (p := ⟨w.heap.size, 0, none⟩) (by simp; omega)).trans (by simp)
    have e1 : w1.frozen? ⟨w.heap.size, 1, none⟩ = false := (hB.frozen (p := ⟨w.heap.size, 1, none⟩) (by simp; omega)).trans (by simp)
    have HB : Hid (Below w.heap.size w w1) := Below.trans (by
      first
        | exact ((((Below.refl _ _).alloc (Nat.le_refl _) _).alloc (by simp) _).setCell (by simp) _).setCell (by simp) _
        | exact (((Below.refl _ _).alloc (Nat.le_refl _) _).alloc (by simp) _)) (hB.mono (by simp; omega))
    clear hB HR HL
    go_wp2
    refine bodyPost_ret (v := .tuple #[.agg #[.int .i64 _, .int .i64 _], .bool _]) (results_cell2 rfl rfl rfl (load_kv (set_two _ _ d0 d1).1 (set_two _ _ d0 d1).2)) rfl ⟨rfl, ?_⟩
    exact (HB.out.setCell (Nat.le_refl _) _).setCell (Nat.le_refl _) _
  · have hr0 : isR (x, y) = false := Bool.eq_false_iff.2 hr
    have HV := HO2.out hr0
    rw [HV]
    rw [hr0] at HR ⊢
    clear HO1 HO2 hr hr0 HV
    go_enter Tryd.func34, Tryd.ntmps34
    go_wp2_with (go_at_call 38; refine (HL.out _).mono ?_; rintro e1 w1 ⟨rfl, rfl⟩)
    refine (HR.out _).mono ?_
    rintro e w1 ⟨rfl, hB⟩
    have e0 : w1.frozen? ⟨w.heap.size, 0, none⟩ = false := (hB.frozen (p := ⟨w.heap.size, 0, none⟩) (by simp; omega)).trans (by simp)
    have e1 : w1.frozen? ⟨w.heap.size, 1, none⟩ = false := (hB.frozen (p := ⟨w.heap.size, 1, none⟩) (by simp; omega)).trans (by simp)
    have d0 : w1.cell? ⟨w.heap.size, 0, none⟩ = some (.int .i64 0) := (hB.cell (p := ⟨w.heap.size, 0, none⟩) (by simp; omega)).trans (by simp)
    have d1 : w1.cell? ⟨w.heap.size, 1, none⟩ = some (.int .i64 0) := (hB.cell (p := ⟨w.heap.size, 1, none⟩) (by simp; omega)).trans (by simp)
    have HB : Hid (Below w.heap.size w w1) := Below.trans (by
      first
        | exact ((((Below.refl _ _).alloc (Nat.le_refl _) _).alloc (by simp) _).setCell (by simp) _).setCell (by simp) _
        | exact (((Below.refl _ _).alloc (Nat.le_refl _) _).alloc (by simp) _)) (hB.mono (by simp; omega))
    clear hB HR HL
    go_wp2
    refine bodyPost_ret (v := .tuple #[.agg #[.int .i64 _, .int .i64 _], .bool _]) (results_cell2 rfl rfl rfl (load_kv (set_two _ _ d0 d1).1 (set_two _ _ d0 d1).2)) rfl ⟨rfl, ?_⟩
    exact (HB.out.setCell (Nat.le_refl _) _).setCell (Nat.le_refl _) _

/-! ### Less -/
def ltK (a b : Ky) : Bool := decide (KLt a b)
end Go.Proofs.YtfclhehpbniapaaDoor
