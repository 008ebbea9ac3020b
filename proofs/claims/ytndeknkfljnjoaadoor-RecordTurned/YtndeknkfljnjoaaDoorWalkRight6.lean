/- Contract of the program's 'right' of a part. -/
import Derived.Test.YtndeknkfljnjoaaDoorWalkRefPut6
import Derived.Test.YtndeknkfljnjoaaDoorWalkSect6
namespace Go.Proofs.YtndeknkfljnjoaaDoor
open Go.RowKit
set_option linter.unusedVariables false

theorem wi6_btw (n l m : Int) : wi6 n l m = btw n l m := rfl
set_option maxHeartbeats 1000000 in
theorem right6 (p : Part) (v : Value) (w : World) (ho : Octs w v p.data) : Calls Tryd.prog 19 #[pval p v] w fun e w' => e = .returned (.bool (okP p)) ∧ Below w.heap.size w w' := by
  have hlen := ho.len
  obtain ⟨a, cap, rfl⟩ := ho.shape
  clear ho
  have HB : Hid (okP p = (btw p.epoch 1 2147483648 && (btw p.number 0 2147483648 && (btw p.index 0 65535 && decide (p.data.length ≤ 112))))) := rfl
  go_enter Tryd.func19, Tryd.ntmps19
  go_wp2_with fail
  refine (within6 p.epoch 1 2147483648 _).mono ?_
  rintro e w0 ⟨rfl, rfl⟩
  rw [wi6_btw]
  by_cases h0 : btw p.epoch 1 2147483648 = true
  case neg =>
    have h0' : btw p.epoch 1 2147483648 = false := by simpa using h0
    rw [h0']
    go_wp2
    go_ret
    exact ⟨ret_bool (by rw [HB.out, h0']; rfl), (Below.refl _ _).alloc (Nat.le_refl _) _⟩
  rw [h0]
  go_wp2_with fail
  refine (within6 p.number 0 2147483648 _).mono ?_
  rintro e w1 ⟨rfl, rfl⟩
  rw [wi6_btw]
  by_cases h1 : btw p.number 0 2147483648 = true
  case neg =>
    have h1' : btw p.number 0 2147483648 = false := by simpa using h1
    rw [h1']
    go_wp2
    go_ret
    exact ⟨ret_bool (by rw [HB.out, h0, h1']; rfl), (Below.refl _ _).alloc (Nat.le_refl _) _⟩
  rw [h1]
  go_wp2_with fail
  refine (within6 p.index 0 65535 _).mono ?_
  rintro e w2 ⟨rfl, rfl⟩
  rw [wi6_btw]
  by_cases h2 : btw p.index 0 65535 = true
  case neg =>
    have h2' : btw p.index 0 65535 = false := by simpa using h2
    rw [h2']
    go_wp2
    go_ret
    exact ⟨ret_bool (by rw [HB.out, h0, h1, h2']; rfl), (Below.refl _ _).alloc (Nat.le_refl _) _⟩
  rw [h2]
  by_cases h3 : p.data.length ≤ 112
  · have h3' : (p.data.length : Int) ≤ 112 := by omega
    go_wp2
    go_ret
    exact ⟨ret_bool (by rw [HB.out, h0, h1, h2, decide_eq_true h3]; rfl), (Below.refl _ _).alloc (Nat.le_refl _) _⟩
  · have h3' : ¬ (p.data.length : Int) ≤ 112 := by omega
    go_wp2
    go_ret
    exact ⟨ret_bool (by rw [HB.out, h0, h1, h2, decide_eq_false h3, decide_eq_false (by omega)]; rfl), (Below.refl _ _).alloc (Nat.le_refl _) _⟩
end Go.Proofs.YtndeknkfljnjoaaDoor
