/- The small functions of package key and of the document: Right, Number, Of; Less. -/
import Derived.Test.YtfclhehpbniapaaDoorWalkSmall
import Derived.Test.YtfclhehpbniapaaDoorKey10
import Derived.Test.YtfclhehpbniapaaDoorKept
import Derived.Test.YtfclhehpbniapaaDoorResCell
import Derived.Deep.MidRow
import Derived.BigQuiet
import Derived.WalkSpells
namespace Go.Proofs.YtfclhehpbniapaaDoor
open Go.RowKit
set_option linter.unusedVariables false

abbrev kv (k : Ky) : Value := .agg #[.int .i64 k.1, .int .i64 k.2]
def KI (k : Ky) : Prop := I64 k.1 ∧ I64 k.2
/-- It is right. -/
def isR (k : Ky) : Bool := decide (1 ≤ k.1 ∧ k.1 ≤ 64 ∧ 0 ≤ k.2 ∧ k.2 ≤ 4095)
theorem isR_iff {k : Ky} : isR k = true ↔ 1 ≤ k.1 ∧ k.1 ≤ 64 ∧ 0 ≤ k.2 ∧ k.2 ≤ 4095 := by simp [isR]
def numK (k : Ky) : Int := if isR k = true then 4096 * k.1 + k.2 else 0

theorem Tryd.sizeK10 : (Tryd.prog.info? 23).map (·.size) = some 2 := by kernel_rfl
/-- A key in a variable, loaded. -/
theorem load_kv {w : World} {b o : Nat} {h p : Int} (c0 : w.cell? ⟨b, o, none⟩ = some (.int .i64 h)) (c1 : w.cell? ⟨b, o + 1, none⟩ = some (.int .i64 p)) : (loadVar 23 ⟨b, o, none⟩).run Tryd.prog w = .ok (.agg #[.int .i64 h, .int .i64 p]) w :=
  run_loadVar_mid (P := Tryd.prog) _ b o 23 [.int .i64 h, .int .i64 p] _ (fun j v hv => by
    match j, hv with
    | 0, hv => simp at hv; subst hv; exact c0
    | 1, hv => simp at hv; subst hv; exact c1
    | j + 2, hv => simp at hv) Tryd.underlying23 rfl Tryd.sizeK10
/-- Both cells of a key stored. -/
theorem set_two {w : World} {b : Nat} {u v : Value} (x y : Value) (h0 : w.cell? ⟨b, 0, none⟩ = some u) (h1 : w.cell? ⟨b, 1, none⟩ = some v) :
    ((w.setCell ⟨b, 0, none⟩ x).setCell ⟨b, 1, none⟩ y).cell? ⟨b, 0, none⟩ = some x ∧ ((w.setCell ⟨b, 0, none⟩ x).setCell ⟨b, 1, none⟩ y).cell? ⟨b, 0 + 1, none⟩ = some y := by
  have n1 : (⟨b, 1, none⟩ : Addr) ≠ ⟨b, 0, none⟩ := by simp
  have n2 : (⟨b, 0, none⟩ : Addr) ≠ ⟨b, 1, none⟩ := by simp
  refine ⟨?_, ?_⟩
  · rw [World.cell?_setCell_other (h := n1), World.cell?_setCell_same (h := h0)]
  · exact World.cell?_setCell_same _ _ y (u := v) (by rw [World.cell?_setCell_other (h := n2)]; exact h1)
theorem right_any (h p : Int) (w : World) :
    Calls Tryd.prog 25 #[.agg #[.int .i64 h, .int .i64 p]] w fun e w' => e = .returned (.bool (isR (h, p))) ∧ Below w.heap.size w w' := by
  by_cases h1 : 1 ≤ h
  · by_cases h2 : h ≤ 64
    · by_cases h3 : 0 ≤ p
      · by_cases h4 : p ≤ 4095
        · have e4 : p < 4096 := by omega
          have HK : Hid (isR (h, p) = true) := decide_eq_true ⟨h1, h2, h3, h4⟩
          go_enter Tryd.func25, Tryd.ntmps25
          go_wp2
          go_ret
          exact ⟨ret_bool HK.out.symm, (Below.refl _ _).alloc (Nat.le_refl _) _⟩
        · have e4 : ¬ p < 4096 := by omega
          have HK : Hid (isR (h, p) = false) := decide_eq_false (fun e => h4 e.2.2.2)
          go_enter Tryd.func25, Tryd.ntmps25
          go_wp2
          go_ret
          exact ⟨ret_bool HK.out.symm, (Below.refl _ _).alloc (Nat.le_refl _) _⟩
      · have HK : Hid (isR (h, p) = false) := decide_eq_false (fun e => h3 e.2.2.1)
        go_enter Tryd.func25, Tryd.ntmps25
        go_wp2
        go_ret
        exact ⟨ret_bool HK.out.symm, (Below.refl _ _).alloc (Nat.le_refl _) _⟩
    · have HK : Hid (isR (h, p) = false) := decide_eq_false (fun e => h2 e.2.1)
      go_enter Tryd.func25, Tryd.ntmps25
      go_wp2
      go_ret
      exact ⟨ret_bool HK.out.symm, (Below.refl _ _).alloc (Nat.le_refl _) _⟩
  · have HK : Hid (isR (h, p) = false) := decide_eq_false (fun e => h1 e.1)
    go_enter Tryd.func25, Tryd.ntmps25
    go_wp2
    go_ret
    exact ⟨ret_bool HK.out.symm, (Below.refl _ _).alloc (Nat.le_refl _) _⟩
theorem refRight_any (h p : Int) (w : World) :
    Calls Tryd.prog 8 #[.agg #[.int .i64 h, .int .i64 p]] w fun e w' => e = .returned (.bool (isR (h, p))) ∧ Below w.heap.size w w' := by
  by_cases h1 : 1 ≤ h
  · have h1' : 0 < h := by omega
    by_cases h2 : h ≤ 64
    · by_cases h3 : 0 ≤ p
      · by_cases h4 : p ≤ 4095
        · have HK : Hid (isR (h, p) = true) := decide_eq_true ⟨h1, h2, h3, h4⟩
          go_enter Tryd.func8, Tryd.ntmps8
          go_wp2
          go_ret
          exact ⟨ret_bool HK.out.symm, (Below.refl _ _).alloc (Nat.le_refl _) _⟩
        · have HK : Hid (isR (h, p) = false) := decide_eq_false (fun e => h4 e.2.2.2)
          go_enter Tryd.func8, Tryd.ntmps8
          go_wp2
          go_ret
          exact ⟨ret_bool HK.out.symm, (Below.refl _ _).alloc (Nat.le_refl _) _⟩
      · have HK : Hid (isR (h, p) = false) := decide_eq_false (fun e => h3 e.2.2.1)
        go_enter Tryd.func8, Tryd.ntmps8
        go_wp2
        go_ret
        exact ⟨ret_bool HK.out.symm, (Below.refl _ _).alloc (Nat.le_refl _) _⟩
    · have HK : Hid (isR (h, p) = false) := decide_eq_false (fun e => h2 e.2.1)
      go_enter Tryd.func8, Tryd.ntmps8
      go_wp2
      go_ret
      exact ⟨ret_bool HK.out.symm, (Below.refl _ _).alloc (Nat.le_refl _) _⟩
  · have h1' : ¬ 0 < h := by omega
    have HK : Hid (isR (h, p) = false) := decide_eq_false (fun e => h1 e.1)
    go_enter Tryd.func8, Tryd.ntmps8
    go_wp2
    go_ret
    exact ⟨ret_bool HK.out.symm, (Below.refl _ _).alloc (Nat.le_refl _) _⟩

theorem refNumber_any (h p : Int) (w : World) :
    Calls Tryd.prog 17 #[.agg #[.int .i64 h, .int .i64 p]] w fun e w' => e = .returned (.int .i64 (numK (h, p))) ∧ Below w.heap.size w w' := by
  have HR : Hid (∀ W, Calls Tryd.prog 8 #[.agg #[.int .i64 h, .int .i64 p]] W fun e w' => e = .returned (.bool (isR (h, p))) ∧ Below W.heap.size W w') := refRight_any h p
  by_cases hr : isR (h, p) = true
  · have HN : Hid (numK (h, p) = 4096 * h + p) := by unfold Hid numK; rw [if_pos hr]
    rw [hr] at HR
    have hb : 1 ≤ h ∧ h ≤ 64 ∧ 0 ≤ p ∧ p ≤ 4095 := isR_iff.1 hr
    clear hr
    obtain ⟨b1, b2, b3, b4⟩ := hb
    go_enter Tryd.func17, Tryd.ntmps17
    go_wp2_with fail
    refine (HR.out _).mono ?_
    rintro e w1 ⟨rfl, hB⟩
    have c0 : w1.cell? ⟨w.heap.size, 0, none⟩ = some (.int .i64 h) := (hB.cell (p := ⟨w.heap.size, 0, none⟩) (by simp)).trans (by simp)
    have c1 : w1.cell? ⟨w.heap.size, 1, none⟩ = some (.int .i64 p) := (hB.cell (p := ⟨w.heap.size, 1, none⟩) (by simp)).trans (by simp)
    have HB : Hid (Below w.heap.size w w1) := ((Below.refl _ _).alloc (Nat.le_refl _) _).trans (hB.mono (by simp))
    clear hB HR
    go_wp2
    go_ret
    exact ⟨ret_int HN.out.symm, HB.out⟩
  · have HN : Hid (numK (h, p) = 0) := by unfold Hid numK; rw [if_neg hr]
    rw [Bool.eq_false_iff.2 hr] at HR
    clear hr
    go_enter Tryd.func17, Tryd.ntmps17
    go_wp2_with fail
    refine (HR.out _).mono ?_
    rintro e w1 ⟨rfl, hB⟩
    have HB : Hid (Below w.heap.size w w1) := ((Below.refl _ _).alloc (Nat.le_refl _) _).trans (hB.mono (by simp))
    clear hB HR
    go_wp2
    go_ret
    exact ⟨ret_int HN.out.symm, HB.out⟩
end Go.Proofs.YtfclhehpbniapaaDoor
