/- The laws' first lines of layer 8 ('awake'): the document's example. -/
import Derived.Test.YtebiccpnehphiaaDoorTurn8
import Derived.Test.YtebiccpnehphiaaDoorFind8
import Derived.Test.YtebiccpnehphiaaDoorNew8
namespace Go.Proofs.YtebiccpnehphiaaDoor
open Go.RowKit
set_option linter.unusedVariables false

theorem RowAt.only {w w' : World} {p b n k : Nat} {B : Nat → Bool} (h : RowAt w p b n B) (ho : Only k w w') (h1 : p ≠ k) (h2 : b ≠ k) : RowAt w' p b n B := h.same (ho.heap h.p_lt h1) (ho.heap h.b_lt h2)
theorem Steps.only {w w' : World} {k : Nat} (h : Steps w) (ho : Only k w w') (hk : 0 < k) : Steps w' := fun j hj => (ho.cell (q := ⟨0, j, none⟩) h.pos (Nat.ne_of_lt hk)).trans (h j hj)
theorem Steps.below {w w' : World} (h : Steps w) (hb : Below w.heap.size w w') : Steps w' := h.kept hb h.pos
theorem hit_ex1 {y : Nat} (h : Hit (putB noneB 0 70 true) 30 y) (hy : y = 70) : False := by
  obtain ⟨i, h1, h2, h3⟩ := h
  subst hy
  unfold putB noneB at h3
  rw [if_neg (by omega)] at h3
  cases h3
theorem awake_any (w : World) (ht : Steps w) : Calls Tryd.prog 6 #[] w fun x w' => x = .returned (.bool true) ∧ Below w.heap.size w w' := by
  have HT : Hid (Steps w) := ht
  have H0 : Hid (0 < w.heap.size) := ht.pos
  have HN : Hid (Calls Tryd.prog 12 #[.int .i64 100] w fun x w' => ∃ p b, x = .returned (.tuple #[.pointer (some ⟨p, 0, none⟩), .int .i64 0]) ∧ w.heap.size ≤ p ∧ w.heap.size ≤ b ∧ RowAt w' p b 100 noneB ∧ Below w.heap.size w w') := new_ok w 100 (by decide) H0.out
  clear ht
  go_enter Tryd.func6, Tryd.ntmps6
  go_wp2_with fail
  refine HN.out.mono ?_
  rintro e w1 ⟨p, b, rfl, hp, hb, hR, hB⟩
  have HB : Hid (Below w.heap.size w w1) := hB
  have HT1 : Hid (Steps w1) := HT.out.below hB
  have HS : Hid (Calls Tryd.prog 14 #[.pointer (some ⟨p, 0, none⟩), .int .i64 0, .int .i64 70] w1 fun x w' => x = .returned (.int .i64 0) ∧ RowAt w' p b 100 (putB noneB 0 70 true) ∧ Only b w1 w') := set_ok w1 p b 100 noneB 0 70 hR HT1.out (by decide) (fun _ _ _ => rfl)
  clear hR hB
  go_wp2_with fail
  refine HS.out.mono ?_
  rintro e w2 ⟨rfl, hR, hO⟩
  have HB2 : Hid (Below w.heap.size w w2) := HB.out.trans (hO.below hb HB.out.size)
  have HT2 : Hid (Steps w2) := HT1.out.only hO (by have := H0.out; omega)
  have HF : Hid (Calls Tryd.prog 13 #[.pointer (some ⟨p, 0, none⟩), .int .i64 30] w2 fun x w' => x = .returned (.int .i64 70) ∧ w' = w2) := (find_any w2 p b 100 _ 30 hR HT2.out (by decide) (by decide)).mono (by
    rintro e w3 ⟨⟨a, rfl, h1, h2, h3⟩ | ⟨rfl, h1⟩, rfl⟩
    · have ha : a = 70 := by
        have h4 : 70 ≤ a := by
          apply Nat.le_of_not_lt
          intro hlt
          have := h2 a (Nat.le_refl _) (by omega)
          unfold putB at this
          rw [if_pos (by omega)] at this
          cases this
        omega
      subst ha
      exact ⟨rfl, rfl⟩
    · exact (hit_ex1 (h1 70 (by decide)) rfl).elim)
  have HG : Hid (Calls Tryd.prog 13 #[.pointer (some ⟨p, 0, none⟩), .int .i64 31] w2 fun x w' => x = .returned (.int .i64 (-1)) ∧ w' = w2) := (find_any w2 p b 100 _ 31 hR HT2.out (by decide) (by decide)).mono (by
    rintro e w3 ⟨⟨a, rfl, h1, h2, h3⟩ | ⟨rfl, h1⟩, rfl⟩
    · have := h2 a (Nat.le_refl _) (by omega)
      unfold putB at this
      rw [if_pos (by omega)] at this
      cases this
    · exact ⟨rfl, rfl⟩)
  clear hR hO
  go_wp2_with fail
  refine HF.out.mono ?_
  rintro e w3 ⟨rfl, rfl⟩
  go_wp2_with fail
  refine HG.out.mono ?_
  rintro e w3 ⟨rfl, rfl⟩
  go_wp2
  go_ret
  exact ⟨rfl, HB2.out⟩
end Go.Proofs.YtebiccpnehphiaaDoor
