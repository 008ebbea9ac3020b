/- Contracts of 'take', the program's and the reference's: an octet taken into a register. -/
import Derived.Test.YtfclhehpbniapaaDoorProg
import Derived.Test.YtfclhehpbniapaaDoorMath
import Derived.Test.YtfclhehpbniapaaDoorMathCrc
namespace Go.Proofs.YtfclhehpbniapaaDoor
open Go.RowKit
set_option linter.unusedVariables false

/-- The program's table lies where it was laid. -/
def Steps (w : World) : Prop := ∀ k, k < 16 → w.cell? ⟨0, k, none⟩ = some (.int .u32 (crcT k : Nat))

theorem bits_u32 (a b : Nat) (ha : a < 4294967296) (hb : b < 4294967296) : bits .xor .u32 (a : Int) (b : Int) = ((a ^^^ b : Nat) : Int) := by
  have e : bits .xor .u32 (a : Int) (b : Int) = IntKind.u32.wrap (((BitVec.ofInt 32 (a : Int) ^^^ BitVec.ofInt 32 (b : Int)).toNat : Nat) : Int) := rfl
  rw [e, BitVec.ofInt_natCast, BitVec.ofInt_natCast, BitVec.toNat_xor, BitVec.toNat_ofNat, BitVec.toNat_ofNat, Nat.mod_eq_of_lt (by simpa using ha), Nat.mod_eq_of_lt (by simpa using hb)]
  have := Nat.xor_lt_two_pow (n := 32) ha hb
  rw [IntKind.wrap_u32]
  omega
theorem and_u32 (a : Nat) (ha : a < 4294967296) : bits .and .u32 (a : Int) 15 = ((a % 16 : Nat) : Int) := by
  have e : bits .and .u32 (a : Int) 15 = IntKind.u32.wrap (((BitVec.ofInt 32 (a : Int) &&& 15#32).toNat : Nat) : Int) := rfl
  rw [e, BitVec.ofInt_natCast, BitVec.toNat_and, BitVec.toNat_ofNat, Nat.mod_eq_of_lt (by simpa using ha)]
  have h : a &&& (15#32).toNat = a % 16 := Nat.and_two_pow_sub_one_eq_mod a 4
  rw [h, IntKind.wrap_u32]
  omega

/-- Half an octet's step, told in letters: the index, the cell, what comes out. -/
theorem half_step (r : Nat) (w : World) (hr : r < 4294967296) (ht : Steps w) :
    ∃ k t r' : Nat, k < 16 ∧ bits .and .u32 (r : Int) 15 = (k : Int) ∧ w.cell? ⟨0, k, none⟩ = some (.int .u32 t) ∧ bits .xor .u32 ((r : Int) / 16) (t : Int) = (r' : Int) ∧ r' < 4294967296 ∧ Hid (r' = r / 16 ^^^ crcT (r % 16)) := by
  have hk : r % 16 < 16 := Nat.mod_lt _ (by decide)
  have h1 := crcT_lt _ hk
  refine ⟨r % 16, crcT (r % 16), r / 16 ^^^ crcT (r % 16), hk, and_u32 r hr, ht _ hk, ?_, Nat.xor_lt_two_pow (n := 32) (by omega) h1, rfl⟩
  rw [← bits_u32 (r / 16) _ (by omega) h1]
  congr 1

set_option maxHeartbeats 400000 in
theorem take_any (u c : Nat) (w : World) (hu : u < 4294967296) (hc : c < 256) (ht : Steps w) :
    Calls Tryd.prog 37 #[.int .u32 u, .int .u8 c] w fun e w' => e = .returned (.int .u32 (crcTake u c : Nat)) ∧ w' = w := by
  have e1 := bits_u32 u c hu (by omega)
  have HR : Hid (crcTake u c = ((u ^^^ c) / 16 ^^^ crcT ((u ^^^ c) % 16)) / 16 ^^^ crcT (((u ^^^ c) / 16 ^^^ crcT ((u ^^^ c) % 16)) % 16)) := crcTake_four u c
  have hr : u ^^^ c < 4294967296 := Nat.xor_lt_two_pow (n := 32) hu (by omega)
  generalize u ^^^ c = r at e1 HR hr
  obtain ⟨k, t, r2, hk, e2, c2, x2, hr2, H2⟩ := half_step r w hr ht
  obtain ⟨k3, t3, r3, hk3, e3, c3, x3, hr3, H3⟩ := half_step r2 w hr2 ht
  clear ht
  go_enter Tryd.func37, Tryd.ntmps37
  go_wp2
  go_ret
  exact ⟨ret_int (by rw [HR.out, ← H2.out, ← H3.out]), rfl⟩

theorem parity (u c : Nat) : (bits .xor .u32 ((u : Int) % 2) ((c : Int) % 2) = 1 ∧ (u % 2 ^^^ c % 2) = 1) ∨ (bits .xor .u32 ((u : Int) % 2) ((c : Int) % 2) = 0 ∧ (u % 2 ^^^ c % 2) = 0) := by
  have h := bits_u32 (u % 2) (c % 2) (by omega) (by omega)
  rw [show ((u % 2 : Nat) : Int) = (u : Int) % 2 by omega, show ((c % 2 : Nat) : Int) = (c : Int) % 2 by omega] at h
  rw [h]
  have hu : u % 2 = 0 ∨ u % 2 = 1 := by omega
  have hc : c % 2 = 0 ∨ c % 2 = 1 := by omega
  rcases hu with hu | hu <;> rcases hc with hc | hc <;> rw [hu, hc] <;> decide

set_option maxHeartbeats 400000 in
theorem refTake_any (u c : Nat) (w : World) (hu : u < 4294967296) (hc : c < 256) :
    Calls Tryd.prog 29 #[.int .u32 u, .int .u8 c] w fun e w' => e = .returned (.int .u32 (crcTake u c : Nat)) ∧ w' = w := by
  have HR : Hid (crcTake u c = crcN 8 (u ^^^ c)) := rfl
  go_enter Tryd.func29, Tryd.ntmps29
  go_wp2
  go_loop [0, 1, 5] (fun a b i => ∃ k u' c' : Nat, k ≤ 8 ∧ i = .int .i64 k ∧ a = .int .u32 u' ∧ b = .int .u8 c' ∧ u' < 4294967296 ∧ c' * 2 ^ k < 256 ∧ crcN k (u ^^^ c) = u' ^^^ c') (fun _ _ i => 8 - (intOf i).toNat)
  case atStart => exact ⟨0, u, c, Nat.zero_le _, rfl, rfl, rfl, hu, by simpa using hc, rfl⟩
  case round =>
    obtain ⟨k, u', c', hk, rfl, rfl, rfl, hu', hc', h⟩ := hrel
    have HX : Hid (crcN k (u ^^^ c) = u' ^^^ c') := h
    clear h
    by_cases hlt : k < 8
    · have hp := parity u' c'
      have HS : Hid (crcN (k + 1) (u ^^^ c) = (if (u' % 2 ^^^ c' % 2) = 1 then u' / 2 ^^^ crcP else u' / 2) ^^^ c' / 2) := by
        unfold Hid; rw [crcN_succ, HX.out, ref_round]
      have HC : Hid (c' / 2 * 2 ^ (k + 1) < 256) := by
        unfold Hid
        have : c' / 2 * 2 ^ (k + 1) ≤ c' * 2 ^ k := by
          rw [Nat.pow_succ, Nat.mul_comm (2 ^ k) 2, ← Nat.mul_assoc]
          exact Nat.mul_le_mul_right _ (by omega)
        omega
      have hc8 : c' < 256 := by
        have := Nat.le_mul_of_pos_right c' (Nat.two_pow_pos k)
        omega
      clear hc'
      rcases hp with ⟨hp, hm⟩ | ⟨hp, hm⟩
      · have HM : Hid ((u' % 2 ^^^ c' % 2) = 1) := hm
        clear hm
        have hx := bits_u32 (u' / 2) crcP (by omega) (by decide)
        have hx2 : u' / 2 ^^^ crcP < 4294967296 := Nat.xor_lt_two_pow (n := 32) (by omega) (by decide)
        have HU : Hid (crcN (k + 1) (u ^^^ c) = (u' / 2 ^^^ crcP) ^^^ c' / 2) := by unfold Hid; rw [HS.out, if_pos HM.out]
        generalize u' / 2 ^^^ crcP = u2 at hx hx2 HU
        rw [show (((u' / 2 : Nat)) : Int) = (u' : Int) / 2 by omega, show ((crcP : Nat) : Int) = 3988292384 by rfl] at hx
        go_wp2
        go_round
        case rel => exact ⟨k + 1, u2, c' / 2, by omega, by go_num, rfl, by go_num, hx2, HC.out, HU.out⟩
        case measure => simp [intOf]; omega
      · have HM : Hid ((u' % 2 ^^^ c' % 2) = 0) := hm
        clear hm
        have HU : Hid (crcN (k + 1) (u ^^^ c) = u' / 2 ^^^ c' / 2) := by unfold Hid; rw [HS.out, if_neg (by rw [HM.out]; decide)]
        go_wp2
        go_round
        case rel => exact ⟨k + 1, u' / 2, c' / 2, by omega, by go_num, by go_num, by go_num, by omega, HC.out, HU.out⟩
        case measure => simp [intOf]; omega
    · obtain rfl : k = 8 := by omega
      have : c' = 0 := by omega
      subst this
      go_wp2
      go_ret
      exact ⟨ret_int (by rw [HR.out, HX.out]; simp), rfl⟩
theorem bits_u8 (a b : Nat) (ha : a < 256) (hb : b < 256) : bits .xor .u8 (a : Int) (b : Int) = ((a ^^^ b : Nat) : Int) := by
  have e : bits .xor .u8 (a : Int) (b : Int) = IntKind.u8.wrap (((BitVec.ofInt 8 (a : Int) ^^^ BitVec.ofInt 8 (b : Int)).toNat : Nat) : Int) := rfl
  rw [e, BitVec.ofInt_natCast, BitVec.ofInt_natCast, BitVec.toNat_xor, BitVec.toNat_ofNat, BitVec.toNat_ofNat, Nat.mod_eq_of_lt (by simpa using ha), Nat.mod_eq_of_lt (by simpa using hb)]
  have := Nat.xor_lt_two_pow (n := 8) ha hb
  rw [IntKind.wrap_u8]
  omega
end Go.Proofs.YtfclhehpbniapaaDoor
