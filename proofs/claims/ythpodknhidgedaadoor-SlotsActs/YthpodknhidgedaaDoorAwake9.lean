/- The laws' first lines of layer 9 ('awake'): the document's example. -/
import Derived.Test.YthpodknhidgedaaDoorNew9
namespace Go.Proofs.YthpodknhidgedaaDoor
open Go.RowKit
set_option linter.unusedVariables false

/-- A new board, of which nothing is taken. -/
theorem newB_empty (w : World) (n : Nat) (hn1 : 1 ≤ n) (hn : n ≤ 65536) (ht : Steps w) :
    Calls Tryd.prog 8 #[.int .i64 (n : Nat), .slice none 0 0] w fun x w' => ∃ q p b f cap, x = .returned (.tuple #[.pointer (some ⟨q, 0, none⟩), .int .i64 0]) ∧ w.heap.size ≤ b ∧ w.heap.size ≤ f ∧ BoardAt w' q p b f cap n noneB ∧ Below w.heap.size w w' :=
  (newB_any w n (.slice none 0 0) [] hn1 hn ht (Nums.nil w)).mono fun x w' h => by
    obtain ⟨hb, ⟨_, q, p, b, f, cap, rfl, h1, h2, h3⟩ | ⟨hg, _⟩⟩ := h
    · exact ⟨q, p, b, f, cap, rfl, h1, h2, h3, hb⟩
    · exact absurd (good_nil n) hg
def ex40 : Nat → Bool := putB noneB 0 40 true
theorem ex_run : IsRun noneB 100 40 0 := ⟨by decide, fun _ _ _ => rfl, fun y hy => absurd hy (by omega)⟩
theorem ex_fr0 : fr ex40 100 0 = 24 := by decide +kernel
theorem ex_fr1 : fr ex40 100 1 = 36 := by decide +kernel
theorem ex_take : IsTake ex40 100 40 where
  lt := by decide
  free := by decide
  first i h1 h2 := by unfold ex40 putB; rw [if_pos (by omega)]
  few d hd h0 := by
    have hd2 : d < 2 := hd
    rw [show 40 / 64 = 0 from rfl, ex_fr0]
    by_cases h : d = 0
    · rw [h, ex_fr0]; exact Nat.le_refl _
    · rw [show d = 1 by omega, ex_fr1]; decide
  one d hd h0 := absurd hd (by omega)
theorem ex_free : cnt (putB ex40 40 1 true) 0 100 = 41 := by decide +kernel
theorem ex_tail : ∀ i, 100 ≤ i → ex40 i = false := fun i hi => by unfold ex40 putB; rw [if_neg (by omega)]; rfl
theorem awake_any (w : World) (ht : Steps w) : Calls Tryd.prog 7 #[] w fun x w' => x = .returned (.bool true) ∧ Below w.heap.size w w' := by
  have HT : Hid (Steps w) := ht
  have H0 : Hid (0 < w.heap.size) := ht.pos
  have HN : Hid (Calls Tryd.prog 8 #[.int .i64 100, .slice none 0 0] w fun x w' => ∃ q p b f cap, x = .returned (.tuple #[.pointer (some ⟨q, 0, none⟩), .int .i64 0]) ∧ w.heap.size ≤ b ∧ w.heap.size ≤ f ∧ BoardAt w' q p b f cap 100 noneB ∧ Below w.heap.size w w') := newB_empty w 100 (by decide) (by decide) ht
  clear ht
  go_enter Tryd.func7, Tryd.ntmps7
  go_wp2_with fail
  refine HN.out.mono ?_
  rintro e w1 ⟨q, p, b, f, cap, rfl, hb, hf, hBd, hB⟩
  have HB : Hid (Below w.heap.size w w1) := hB
  have HP : Hid (w.heap.size ≤ b ∧ w.heap.size ≤ f) := ⟨hb, hf⟩
  have HT1 : Hid (Steps w1) := HT.out.below hB
  have HR : Hid (Calls Tryd.prog 13 #[.pointer (some ⟨q, 0, none⟩), .int .i64 40] w1 fun x w' => x = .returned (.tuple #[.int .i64 0, .int .i64 0]) ∧ BoardAt w' q p b f cap 100 ex40 ∧ Only2 b f w1 w') := (run_any w1 q p b f cap 100 noneB 40 hBd HT1.out (by decide) (by decide)).mono fun x w' h => by
    rcases h with ⟨s, rfl, h1, h2, h3⟩ | ⟨_, h1, _⟩
    · have e : s = 0 := h1.same ex_run
      subst e
      exact ⟨rfl, h2, h3⟩
    · exact (h1.no ex_run).elim
  clear hBd hB hb hf
  go_wp2_with fail
  refine HR.out.mono ?_
  rintro e w2 ⟨rfl, hBd, hO⟩
  have HB2 : Hid (Below w.heap.size w w2) := HB.out.trans (hO.below HP.out.1 HP.out.2 HB.out.size)
  have HT2 : Hid (Steps w2) := HT1.out.only2 hO (by have := H0.out; have := HP.out.1; omega) (by have := H0.out; have := HP.out.2; omega)
  have HK : Hid (Calls Tryd.prog 11 #[.pointer (some ⟨q, 0, none⟩)] w2 fun x w' => x = .returned (.tuple #[.int .i64 40, .int .i64 0]) ∧ BoardAt w' q p b f cap 100 (putB ex40 40 1 true) ∧ Only2 b f w2 w') := (take_any w2 q p b f cap 100 ex40 hBd HT2.out).mono fun x w' h => by
    rcases h with ⟨s, rfl, h1, h2, h3⟩ | ⟨_, h1, _⟩
    · have e : s = 40 := h1.same ex_tail ex_take
      subst e
      exact ⟨rfl, h2, h3⟩
    · have := h1 40 (by decide)
      rw [ex_take.free] at this
      cases this
  clear hBd hO
  go_wp2_with fail
  refine HK.out.mono ?_
  rintro e w3 ⟨rfl, hBd, hO⟩
  have HB3 : Hid (Below w.heap.size w w3) := HB2.out.trans (hO.below HP.out.1 HP.out.2 HB2.out.size)
  have HF : Hid (Calls Tryd.prog 18 #[.pointer (some ⟨q, 0, none⟩)] w3 fun x w' => x = .returned (.int .i64 59) ∧ ∃ m, w' = w3.drewN m) := by
    have := free_any w3 q p b f cap 100 _ hBd
    rwa [ex_free] at this
  clear hBd hO
  go_wp2_with fail
  refine HF.out.mono ?_
  rintro e w4 ⟨rfl, m, rfl⟩
  have HB4 : Hid (Below w.heap.size w (w3.drewN m)) := HB3.out.trans ((below_drewN w3 m).mono HB3.out.size)
  go_wp2
  go_ret
  exact ⟨rfl, HB4.out⟩
end Go.Proofs.YthpodknhidgedaaDoor
