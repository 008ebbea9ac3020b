/- Contracts of 'take', the program's and the reference's: an octet taken into a register. -/
import Derived.Test.YthhdkadjlddmkaaDoorProg
import Derived.Test.YthhdkadjlddmkaaDoorMath
import Derived.Test.YthhdkadjlddmkaaDoorMathCrc
namespace Go.Proofs.YthhdkadjlddmkaaDoor
open Go.RowKit
set_option linter.unusedVariables false

/-- The program's table lies where it was laid. -/
def Steps (w : World) : Prop := ∀ k, k < 16 → w.cell? ⟨0, k, none⟩ = some (.int .u32 (crcT k : Nat))

theorem bits_u32 (a b : Nat) (ha : a < 4294967296) (hb : b < 4294967296) : bits .xor .u32 (a : Int) (b : Int) = ((a ^^^ b : Nat) : Int) := by
  have e : bits .xor .u32 (a : Int) (b : Int) = IntKind.u32.wrap (((BitVec.ofInt 32 (a : Int) ^^^ BitVec.ofInt 32 (b : Int)).toNat : Nat) : Int) := rfl
  rw [e, BitVec.ofInt_natCast, BitVec.ofInt_natCast, BitVec.toNat_xor, BitVec.toNat_ofNat, BitVec.toNat_ofNat, Nat.mod_eq_of_lt (by simpa using ha), Nat.mod_eq_of_lt (by simpa using hb)]
  have := Nat.xor_lt_two_pow (n := 32) ha hb
  rw [IntKind.wrap_u32]
  omega
theorem and_u32 (a : Nat) (ha : a < 4294967296) : bits .and .u32 (a : Int) 15 = ((a % 16 : Nat) : Int) := by
  have e : bits .and .u32 (a : Int) 15 = IntKind.u32.wrap (((BitVec.ofInt 32 (a : Int) &&& 15#32).toNat : Nat) : Int) := rfl
  rw [e, BitVec.ofInt_natCast, BitVec.toNat_and, BitVec.toNat_ofNat, Nat.mod_eq_of_lt (by simpa using ha)]
  have h : a &&& (15#32).toNat = a % 16 := Nat.and_two_pow_sub_one_eq_mod a 4
  rw [h, IntKind.wrap_u32]
  omega

/-- Half an octet's step, told in letters: the index, the cell, what comes out. -/
theorem half_step (r : Nat) (w : World) (hr : r < 4294967296) (ht : Steps w) :
    ∃ k t r' : Nat, k < 16 ∧ bits .and .u32 (r : Int) 15 = (k : Int) ∧ w.cell? ⟨0, k, none⟩ = some (.int .u32 t) ∧ bits .xor .u32 ((r : Int) / 16) (t : Int) = (r' : Int) ∧ r' < 4294967296 ∧ Hid (r' = r / 16 ^^^ crcT (r % 16)) := by
  have hk : r % 16 < 16 := Nat.mod_lt _ (by decide)
  have h1 := crcT_lt _ hk
  refine ⟨r % 16, crcT (r % 16), r / 16 ^^^ crcT (r % 16), hk, and_u32 r hr, ht _ hk, ?_, Nat.xor_lt_two_pow (n := 32) (by omega) h1, rfl⟩
  rw [← bits_u32 (r / 16) _ (by omega) h1]
  congr 1

set_option maxHeartbeats 400000 in
theorem take_any (u c : Nat) (w : World) (hu : u < 4294967296) (hc : c < 256) (ht : Steps w) :
    Calls Tryd.prog 70 #[.int .u32 u, .int .u8 c] w fun e w' => e = .returned (.int .u32 (crcTake u c : Nat)) ∧ w' = w := by
  have e1 := bits_u32 u c hu (by omega)
  have HR : Hid (crcTake u c = ((u ^^^ c) / 16 ^^^ crcT ((u ^^^ c) % 16)) / 16 ^^^ crcT (((u ^^^ c) / 16 ^^^ crcT ((u ^^^ c) % 16)) % 16)) := crcTake_four u c
  have hr : u ^^^ c < 4294967296 := Nat.xor_lt_two_pow (n := 32) hu (by omega)
  generalize u ^^^ c = r at e1 HR hr
  obtain ⟨k, t, r2, hk, e2, c2, x2, hr2, H2⟩ := half_step r w hr ht
  obtain ⟨k3, t3, r3, hk3, e3, c3, x3, hr3, H3⟩ := half_step r2 w hr2 ht
  clear ht
  go_enter Tryd.func70, Tryd.ntmps70
  go_wp2
  go_ret
  exact ⟨ret_int (by rw [HR.out, ← H2.out, ← H3.out]), rfl⟩

theorem parity (u c : Nat) : (bits .xor .u32 ((u : Int) % 2) ((c : Int) % 2) = 1 ∧ (u % 2 ^^^ c % 2) = 1) ∨ (bits .xor .u32 ((u : Int) % 2) ((c : Int) % 2) = 0 ∧ (u % 2 ^^^ c % 2) = 0) := by
  have h := bits_u32 (u % 2) (c % 2) (by omega) (by omega)
  rw [show ((u % 2 : Nat) : Int) = (u : Int) % 2 by omega, show ((c % 2 : Nat) : Int) = (c : Int) % 2 by omega] at h
  rw [h]
  have hu : u % 2 = 0 ∨ u % 2 = 1 := by omega
  have hc : c % 2 = 0 ∨ c % 2 = 1 := by omega
  rcases hu with hu | hu <;> rcases hc with hc | hc <;> rw [hu, hc] <;> decide

theorem bits_u8 (a b : Nat) (ha : a < 256) (hb : b < 256) : bits .xor .u8 (a : Int) (b : Int) = ((a ^^^ b : Nat) : Int) := by
  have e : bits .xor .u8 (a : Int) (b : Int) = IntKind.u8.wrap (((BitVec.ofInt 8 (a : Int) ^^^ BitVec.ofInt 8 (b : Int)).toNat : Nat) : Int) := rfl
  rw [e, BitVec.ofInt_natCast, BitVec.ofInt_natCast, BitVec.toNat_xor, BitVec.toNat_ofNat, BitVec.toNat_ofNat, Nat.mod_eq_of_lt (by simpa using ha), Nat.mod_eq_of_lt (by simpa using hb)]
  have := Nat.xor_lt_two_pow (n := 8) ha hb
  rw [IntKind.wrap_u8]
  omega
end Go.Proofs.YthhdkadjlddmkaaDoor
