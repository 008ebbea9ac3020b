/- The law JournalRound over the bundle. -/
import Derived.Test.YthhdkadjlddmkaaDoorLawElder7
import Derived.Test.YthhdkadjlddmkaaDoorSame7
namespace Go.Proofs.YthhdkadjlddmkaaDoor
open Go.RowKit
set_option linter.unusedVariables false

theorem IsJ.set {B : JOps} {K : Nat → Prop} {w : World} {p : Nat} {L : Loc} {S : St} {J : JS} (h : IsJ B.Head K w p L S J) {g : Addr} (hg : K g.block) (u : Value) : IsJ B.Head K (w.setCell g u) p L S J :=
  ⟨B.same h.1 (Below.heap_setCell _ _ _ _ fun e => h.2.2 (e ▸ hg)), h.2.1.beside (.inl hg) u, h.2.2⟩
/-- A row of the call's own grew. -/
theorem IsJ.grew {B : JOps} {base : Nat} {W W' : World} {sv v' : Value} {p : Nat} {L : Loc} {S : St} {J : JS} (h : IsJ B.Head (fun i => i < base ∨ sv.ownBlock = some i) W p L S J) (hg : W.grownBy W' sv.ownBlock)
    (hat : v'.ownBlock = sv.ownBlock ∨ v'.ownBlock = some W.heap.size) (hlt : ∀ g, v'.ownBlock = some g → g < W'.heap.size) : IsJ B.Head (fun i => i < base ∨ v'.ownBlock = some i) W' p L S J := by
  have hp := B.lt h.1
  have hpo : sv.ownBlock ≠ some p := fun e => h.2.2 (.inr e)
  have hD : IsDisk (fun k => (k < base ∨ sv.ownBlock = some k) ∨ k = p) W' L S := h.2.1.same hg.size fun k hk hf => hg.block k hk fun e => h.2.1.nK k hf (.inl (.inr e.symm))
  refine ⟨B.same h.1 (hg.block p hp fun e => hpo e.symm), hD.turnK (fun k hf hk => ?_) (fun k hk => ?_), fun hk => ?_⟩
  · have hkl := h.2.1.lt k hf
    rcases hk with (hk | hk) | hk
    · exact h.2.1.nK k hf (.inl (.inl hk))
    · rcases hat with e | e
      · exact h.2.1.nK k hf (.inl (.inr (e ▸ hk)))
      · rw [e] at hk; simp only [Option.some.injEq] at hk; omega
    · exact h.2.1.nK k hf (.inr hk)
  · rcases hk with (hk | hk) | hk
    · exact Nat.lt_of_lt_of_le (h.2.1.kl k (.inl (.inl hk))) hg.size
    · exact hlt k hk
    · have := hg.size; omega
  · rcases hk with hk | hk
    · exact h.2.2 (.inl hk)
    · rcases hat with e | e
      · exact hpo (e ▸ hk)
      · rw [e] at hk; simp only [Option.some.injEq] at hk; omega
/-- Octets of a block known whole. -/
theorem octs_whole {W : World} {g m : Nat} {t : TypeId} {zs : List Nat} (h : W.heap[g]? = some (.cells (u8s zs).toArray t (0, 0))) (hz : ∀ z ∈ zs, z < 256) (hl : zs.length = m) (hm : m ≤ 100000) : Octs W (.slice (some ⟨g, 0, none⟩) m m) zs := by
  refine ⟨hz, by rw [hl]; unfold maxLen; omega, some ⟨g, 0, none⟩, m, by rw [hl], by rw [hl]; exact Nat.le_refl _, by unfold maxLen; omega, .inr ⟨_, rfl, .inr ⟨g, 0, rfl, lt_of_heap h, fun j hj => ?_⟩⟩⟩
  rw [cell_of_row _ _ _ _ _ _ h, Nat.zero_add]
  simp [u8s, List.getElem?_eq_getElem hj]
theorem first_set (j m : Nat) (hm : 1 ≤ m) : (u8s (zl m)).toArray.setIfInBounds 0 (.int .u8 (j : Nat)) = (u8s (j :: zl (m - 1))).toArray := by
  obtain ⟨k, rfl⟩ : ∃ k, m = k + 1 := ⟨m - 1, by omega⟩
  rw [show zl (k + 1) = 0 :: zl k from rfl, Nat.add_sub_cancel]
  rfl
theorem pick600 (z : Nat) (hz : z < 65536) : ∃ g m : Nat, (wrap64 (z : Nat)).tmod 600 = (g : Nat) ∧ 1 + ((g : Nat) : Int) = (m : Nat) ∧ wrap64 (g : Nat) = (g : Nat) ∧ wrap64 (m : Nat) = (m : Nat) ∧ 1 ≤ m ∧ m ≤ 600 := by
  have hg : z % 600 < 600 := Nat.mod_lt _ (by decide)
  refine ⟨z % 600, 1 + z % 600, ?_, by omega, wrap_small (by omega) (by omega), wrap_small (by omega) (by omega), by omega, by omega⟩
  rw [wrap_small (by omega) (by omega), Int.tmod_eq_emod_of_nonneg (by omega)]; omega
theorem Goes.reset {S : St} {J : JS} {start j : Nat} {sure : List (List Nat)} (h : Goes S J start sure j) (he : J.epoch < 2147483648) : ∃ J', resetR J = (J', 0) ∧ Goes S J' J.place [] j ∧ J'.n = J.n ∧ J'.epoch = J.epoch + 1 ∧ J'.fr = J.fr ∧ J'.place = J.place ∧ J'.used = 0 := by
  have h1 := h.inv.reset h.dead (by omega)
  have hr : resetR J = ({ J with epoch := J.epoch + 1, count := 0, used := 0, dirty := false }, 0) := by
    unfold resetR
    rw [if_neg (by rw [h.dead]; decide), if_neg (by omega)]
  rw [hr] at h1
  exact ⟨_, hr, ⟨h1.1, h.dead, rfl, h.left, h.wr⟩, rfl, rfl, rfl, rfl, rfl⟩
/-- Behind a crash with nothing that waits: what Open finds. -/
theorem Goes.again {S : St} {J : JS} {start j : Nat} {sure : List (List Nat)} (h : Goes S J start sure j) (ks : List Int) (torn cut : Int) :
    (S.crashed ks torn cut).see = S.safe ∧ openPs S.safe J.fr J.n J.epoch start = sure ∧ (openJ S.safe J.fr J.n J.epoch start).used = J.used ∧ (openJ S.safe J.fr J.n J.epoch start).place = J.place := by
  obtain ⟨hw, _, hj, _⟩ := h.inv.alive h.dead
  have hs : (S.crashed ks torn cut).safe = S.safe := by
    show crashTo ks torn cut S.safe S.waits S.waits.length = _
    rw [hw]; rfl
  refine ⟨(see_safe rfl).trans hs, h.inv.ring.opened hj, ?_, ?_⟩
  · rw [h.inv.ring.openJ hj]
  · rw [h.inv.ring.openJ hj]
end Go.Proofs.YthhdkadjlddmkaaDoor
