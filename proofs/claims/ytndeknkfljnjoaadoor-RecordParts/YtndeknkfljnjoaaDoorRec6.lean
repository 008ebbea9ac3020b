/- What the laws of layer 6 ask of the program's own functions, as one bundle of contracts; the laws' first lines by it. -/
import Derived.Test.YtndeknkfljnjoaaDoorWalkSame6
import Derived.Test.YtndeknkfljnjoaaDoorTurn6
namespace Go.Proofs.YtndeknkfljnjoaaDoor
open Go.RowKit
set_option linter.unusedVariables false

def joinK (o : Option (List Nat × Nat)) : Nat := match o with | some (_, k) => k | none => 0
def joinP (o : Option (List Nat × Nat)) : List Nat := match o with | some (p, _) => p | none => []
theorem joinV_eq (o : Option (List Nat × Nat)) : joinV o = .tuple #[.string (strN (joinP o)), .int .i64 (joinK o : Nat)] := by
  cases o with
  | none => show Value.tuple #[.string ⟨#[]⟩, .int .i64 0] = .tuple #[.string (strN []), .int .i64 ((0 : Nat) : Int)]; rw [str_nil]; rfl
  | some x => rfl
structure Rec6 : Prop where
  sectors : ∀ (n : Int) (w : World), -9223372036854775808 ≤ n → n ≤ 9223372036854775807 → Calls Tryd.prog 16 #[.int .i64 n] w fun x w' => x = .returned (.int .i64 (sectorsN n)) ∧ Below w.heap.size w w'
  put_ok : ∀ (p : Part) (v : Value) (w : World), okP p = true → Octs w v p.data → Steps w → Calls Tryd.prog 8 #[pval p v] w fun x w' => ∃ u, x = .returned (.tuple #[u, .int .i64 0]) ∧ Octs w' u (sect6 p) ∧ Below w.heap.size w w'
  put_no : ∀ (p : Part) (v : Value) (w : World), okP p = false → Octs w v p.data → -9223372036854775808 ≤ p.epoch ∧ p.epoch ≤ 9223372036854775807 → -9223372036854775808 ≤ p.number ∧ p.number ≤ 9223372036854775807 → -9223372036854775808 ≤ p.index ∧ p.index ≤ 9223372036854775807 →
    Calls Tryd.prog 8 #[pval p v] w fun x w' => ∃ u, x = .returned (.tuple #[u, .int .i64 2]) ∧ Octs w' u [] ∧ Below w.heap.size w w'
  get : ∀ (v : Value) (zs : List Nat) (w : World), Octs w v zs → zs.length ≤ 60000 → Steps w → Calls Tryd.prog 9 #[v] w fun x w' => ∃ u, x = .returned (gotV (getP zs) u) ∧ Octs w' u ((getP zs).getD Part.zero).data ∧ Below w.heap.size w w'
  cut_ok : ∀ (e n : Int) (v : Value) (zs : List Nat) (w : World), okId e n = true → Octs w v zs → 1 ≤ zs.length → zs.length ≤ 65000 → Steps w → Calls Tryd.prog 14 #[.int .i64 e, .int .i64 n, v] w fun x w' => ∃ u, x = .returned (.tuple #[u, .int .i64 0]) ∧ Octs w' u (cutS e n zs) ∧ Below w.heap.size w w'
  cut_no : ∀ (e n : Int) (v : Value) (zs : List Nat) (w : World), (okId e n = false ∨ zs.length = 0 ∨ 65000 < zs.length) → Octs w v zs → zs.length ≤ 60000 → Steps w → -9223372036854775808 ≤ e ∧ e ≤ 9223372036854775807 → -9223372036854775808 ≤ n ∧ n ≤ 9223372036854775807 →
    Calls Tryd.prog 14 #[.int .i64 e, .int .i64 n, v] w fun x w' => ∃ u, x = .returned (.tuple #[u, .int .i64 2]) ∧ Octs w' u [] ∧ Below w.heap.size w w'
  join : ∀ (v : Value) (zs : List Nat) (e n : Int) (w : World), Octs w v zs → zs.length ≤ 60000 → Steps w → -9223372036854775808 ≤ e ∧ e ≤ 9223372036854775807 → -9223372036854775808 ≤ n ∧ n ≤ 9223372036854775807 →
    Calls Tryd.prog 17 #[v, .int .i64 e, .int .i64 n] w fun x w' => ∃ u, x = .returned (.tuple #[u, .int .i64 (joinK (joinS zs e n) : Nat)]) ∧ Octs w' u (joinP (joinS zs e n)) ∧ Below w.heap.size w w'

theorem awake6 (R : Rec6) (w : World) : Calls Tryd.prog 7 #[] w fun e w' => e = .returned (.bool true) ∧ Below w.heap.size w w' := by
  have HR : Hid Rec6 := R
  clear R
  have s1 : sectorsN 112 = 2 := by decide +kernel
  have s2 : sectorsN 113 = 3 := by decide +kernel
  go_enter Tryd.func7, Tryd.ntmps7
  go_wp2_with fail
  refine (HR.out.sectors 112 w (by decide) (by decide)).mono ?_
  rintro e w1 ⟨rfl, hb1⟩
  rw [s1]
  have HB1 : Hid (Below w.heap.size w w1) := hb1
  clear hb1
  go_wp2_with fail
  refine (HR.out.sectors 113 w1 (by decide) (by decide)).mono ?_
  rintro e w2 ⟨rfl, hb2⟩
  rw [s2]
  have HB2 : Hid (Below w.heap.size w w2) := HB1.out.trans (hb2.mono HB1.out.size)
  clear hb2
  go_wp2
  go_ret
  exact ⟨rfl, HB2.out⟩
end Go.Proofs.YtndeknkfljnjoaaDoor
