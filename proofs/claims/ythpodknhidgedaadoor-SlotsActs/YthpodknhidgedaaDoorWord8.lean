/- Contracts of the two calls of the library of bits: how many are set, where the lowest one is. -/
import Derived.Test.YthpodknhidgedaaDoorProg
import Derived.Test.YthpodknhidgedaaDoorBit8
import Derived.Test.YthpodknhidgedaaDoorTools
import Derived.Laws.Bits128
namespace Go.Proofs.YthpodknhidgedaaDoor
open Go.RowKit
set_option linter.unusedVariables false

theorem and_nat (a b : Nat) (ha : a < 18446744073709551616) (hb : b < 18446744073709551616) {A : Int} (hA : A = (a : Nat)) : bits .and .u64 A (b : Nat) = ((a &&& b : Nat) : Int) := by
  rw [hA]; exact bits_and_u64_nat a b ha hb
theorem ones_core (x a b y c d z s u t1 t2 t3 n : Int) (w : World)
    (k1 : bits .and .u64 (x / 2) 6148914691236517205 = a) (k2 : bits .and .u64 x 6148914691236517205 = b) (k3 : IntKind.u64.wrap (a + b) = y)
    (k4 : bits .and .u64 (y / 4) 3689348814741910323 = c) (k5 : bits .and .u64 y 3689348814741910323 = d) (k6 : IntKind.u64.wrap (c + d) = z)
    (k7 : IntKind.u64.wrap (z / 16 + z) = s) (k8 : bits .and .u64 s 1085102592571150095 = u) (k9 : IntKind.u64.wrap (u + u / 256) = t1) (k10 : IntKind.u64.wrap (t1 + t1 / 65536) = t2)
    (k11 : IntKind.u64.wrap (t2 + t2 / 4294967296) = t3) (k12 : wrap64 t3 = t3) (k13 : bits .and .i64 t3 127 = n) :
    Calls Tryd.prog 37 #[.int .u64 x] w fun e w' => e = .returned (.int .i64 n) ∧ w' = w := by
  go_enter Tryd.func37, Tryd.ntmps37
  go_wp2
  go_ret
  exact ⟨rfl, rfl⟩
/-- How many bits are set. -/
theorem ones_any (x : Nat) (w : World) (hx : x < 18446744073709551616) :
    Calls Tryd.prog 37 #[.int .u64 x] w fun e w' => e = .returned (.int .i64 (cnt (fun i => x.testBit i) 0 64 : Nat)) ∧ w' = w := by
  obtain ⟨p1, p2, p3, p4, e1, e2, e3, e4, b3, b0, b1, b2, hp⟩ := pop4 x
  have hy := pop1 8 x
  have hz := popX_step x
  have hu := pop3 8 x
  have m1 : octM 85 8 = 6148914691236517205 := by decide
  have m2 : octM 51 8 = 3689348814741910323 := by decide
  have m3 : octM 15 8 = 1085102592571150095 := by decide
  rw [m1] at hy; rw [m2] at hz; rw [m3] at hu
  have a1 := Nat.and_le_right (n := x / 2) (m := 6148914691236517205)
  have a2 := Nat.and_le_right (n := x) (m := 6148914691236517205)
  have hyl : octD pg1 8 x < 18446744073709551616 := by omega
  have a3 := Nat.and_le_right (n := octD pg1 8 x / 4) (m := 3689348814741910323)
  have a4 := Nat.and_le_right (n := octD pg1 8 x) (m := 3689348814741910323)
  have hzl : octD ph 8 x < 7378697629483820647 := by omega
  refine ones_core (x : Nat) (x / 2 &&& 6148914691236517205 : Nat) (x &&& 6148914691236517205 : Nat) (octD pg1 8 x : Nat) (octD pg1 8 x / 4 &&& 3689348814741910323 : Nat) (octD pg1 8 x &&& 3689348814741910323 : Nat) (octD ph 8 x : Nat) (octD ph 8 x / 16 + octD ph 8 x : Nat) (popX x : Nat) (p1 : Nat) (p2 : Nat) (p3 : Nat) _ w
    (and_nat (x / 2) 6148914691236517205 (by omega) (by decide) (by omega)) (and_nat x _ hx (by decide) rfl) ?_ (and_nat (octD pg1 8 x / 4) 3689348814741910323 (by omega) (by decide) (by omega)) (and_nat _ _ hyl (by decide) rfl) ?_ ?_ ?_ ?_ ?_ ?_ ?_ ?_
  · rw [IntKind.wrap_u64]; omega
  · rw [IntKind.wrap_u64]; omega
  · rw [IntKind.wrap_u64]; omega
  · unfold popX; rw [← hu]; exact and_nat _ _ (by omega) (by decide) rfl
  · rw [IntKind.wrap_u64]; omega
  · rw [IntKind.wrap_u64]; omega
  · rw [IntKind.wrap_u64]; omega
  · unfold wrap64; omega
  · rw [← hp, e4, i64_and127]; omega

/-! ### The lowest one -/
/-- The library's table, as its initialiser lays it, in the first block. -/
def Steps (w : World) : Prop := ∀ j, j < 64 → w.cell? ⟨0, j, none⟩ = some (.int .u8 (Lib.deBruijn64tab.getD j 0 : Nat))
theorem Steps.pos {w : World} (h : Steps w) : 0 < w.heap.size := cell_lt (h 0 (by decide))
theorem Steps.kept {B : Nat} {w w' : World} (h : Steps w) (hb : Below B w w') (hB : 0 < B) : Steps w' := fun j hj => (hb.cell (p := ⟨0, j, none⟩) hB).trans (h j hj)
theorem tz_core (x k idx : Nat) (w : World) (hx0 : ((x : Int) == 0) = false)
    (key : IntKind.u64.wrap (bits BinOp.and IntKind.u64 (x : Int) (IntKind.u64.wrap (-(x : Int))) * 285870213051353865) / 288230376151711744 = (idx : Int))
    (hi : idx < 64) (hk : k < 64) (hcell : w.cell? ⟨0, idx, none⟩ = some (.int .u8 k)) :
    Calls Tryd.prog 39 #[.int .u64 x] w fun e w' => e = .returned (.int .i64 k) ∧ w' = w := by
  go_enter Tryd.func39, Tryd.ntmps39
  go_wp2_with (simp only [key])
  go_ret
  exact ⟨rfl, rfl⟩
theorem tz_key (x a : Nat) (hx : x < 18446744073709551616) (hx0 : x ≠ 0) (hlow : x &&& (18446744073709551616 - x) = a) :
    IntKind.u64.wrap (bits BinOp.and IntKind.u64 (x : Int) (IntKind.u64.wrap (-(x : Int))) * 285870213051353865) / 288230376151711744 = ((a * 285870213051353865 % 18446744073709551616 / 288230376151711744 : Nat) : Int) := by
  have e1 : IntKind.u64.wrap (-(x : Int)) = ((18446744073709551616 - x : Nat) : Int) := by rw [IntKind.wrap_u64]; omega
  rw [e1, bits_and_u64_nat x _ hx (by omega), hlow, IntKind.wrap_u64]
  omega
theorem tz_any (x : Nat) (hx : x < 18446744073709551616) (hx0 : x ≠ 0) (w : World) (hT : Steps w) :
    Calls Tryd.prog 39 #[.int .u64 x] w fun e w' => e = .returned (.int .i64 (Lib.ctz 64 x : Nat)) ∧ w' = w := by
  obtain ⟨hlow, hk⟩ := Lib.lowest_bit 64 x hx0 hx
  obtain ⟨hi, htab⟩ := Lib.deBruijn64_at _ hk
  have hcell := hT _ hi
  rw [htab] at hcell
  exact tz_core x _ _ w (by simp; omega) (tz_key x _ hx hx0 hlow) hi hk hcell
end Go.Proofs.YthpodknhidgedaaDoor
