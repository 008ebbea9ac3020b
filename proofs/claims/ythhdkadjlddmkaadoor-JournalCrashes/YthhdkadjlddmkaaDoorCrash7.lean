/- For the law JournalCrashes: acts that came in; what each act does to what holds between calls. -/
import Derived.Test.YthhdkadjlddmkaaDoorLawRound7
import Derived.ChangeArms
import Derived.DataReads
namespace Go.Proofs.YthhdkadjlddmkaaDoor
open Go.ChangeShapes Go.WideShapes Go.RowKit
set_option linter.unusedVariables false

/-! ### What each act does -/
theorem appendD_le (S : St) (J : JS) (b : List Nat) (P : Nat) : (appendD S J b P).1.written ≤ S.written + P + 1 := by
  have hf : ∀ s : St, s.written ≤ S.written + P → (footR J b P s).1.written ≤ S.written + P + 1 := fun s hs => by
    unfold footR tick
    split
    · show s.written ≤ _; omega
    · dsimp only
      split
      · show s.written ≤ _; omega
      · split
        · show s.written + 1 ≤ _; omega
        · show s.written + 1 ≤ _; omega
  unfold appendD
  split
  · unfold tick
    split
    · show S.written ≤ _; omega
    · exact hf _ (Nat.le_refl _)
  · unfold tick
    split
    · show S.written ≤ _; omega
    · dsimp only
      split
      · show S.written + (J.n - J.place) ≤ _; omega
      · exact hf _ (by show S.written + (J.n - J.place) + (P - (J.n - J.place)) ≤ _; omega)
theorem JInv.waits_le {S : St} {J : JS} {start : Nat} {sure : List (List Nat)} {under : List Nat} (h : JInv S J start sure under) : S.waits.length ≤ 4096 := by
  by_cases hd : J.dead = true
  · obtain ⟨hz, hr, hc⟩ := h.gone hd
    have h1 := h.ring.n2
    rcases hc with ⟨_, a, ha, hw⟩ | ⟨_, _, hw | hw⟩
    · rw [hw]; unfold wrL; rw [List.length_map, List.length_range]; omega
    · rw [hw]; exact Nat.zero_le _
    · rw [hw]; unfold wrL; rw [List.length_map, List.length_range]; omega
  · rw [(h.alive (by simpa using hd)).1]; exact Nat.zero_le _
theorem JInv.appended {S : St} {J : JS} {start : Nat} {sure : List (List Nat)} {under : List Nat} (h : JInv S J start sure under) (zs : List Nat) (hz : ∀ z ∈ zs, z < 256) :
    ∃ S' J' c, appendR S J zs = (S', J', c) ∧ (J'.n = J.n ∧ J'.epoch = J.epoch ∧ J'.fr = J.fr) ∧ S'.written ≤ S.written + 5000 ∧
      ((c = 0 ∧ under = [] ∧ JInv S' J' start (sure ++ [zs]) []) ∨ (c = 10 ∧ under = [] ∧ JInv S' J' start sure zs) ∨ (c = 10 ∧ under ≠ [] ∧ JInv S' J' start sure under) ∨ ((c = 2 ∨ c = 11 ∨ c = 19) ∧ JInv S' J' start sure under)) := by
  by_cases hd : J.dead = true
  · refine ⟨S, J, 10, if_pos hd, ⟨rfl, rfl, rfl⟩, Nat.le_add_right _ _, .inr (.inr (.inl ⟨rfl, ?_, h⟩))⟩
    intro e
    have := (h.gone hd).1.1.1
    rw [e] at this
    simp at this
  · have hd' : J.dead = false := by simpa using hd
    obtain ⟨hw, hu, hj, hcl⟩ := h.alive hd'
    by_cases hdy : J.dirty = true
    · exact ⟨S, J, 19, by unfold appendR; rw [if_neg hd, if_pos hdy], ⟨rfl, rfl, rfl⟩, Nat.le_add_right _ _, .inr (.inr (.inr ⟨.inr (.inr rfl), h⟩))⟩
    · have hdy' : J.dirty = false := by simpa using hdy
      by_cases hl : 1 ≤ zs.length ∧ zs.length ≤ 65000
      · by_cases hr : J.n - J.used < partsN zs.length + 1
        · exact ⟨S, J, 11, appendR_log hd' hdy' hl hr, ⟨rfl, rfl, rfl⟩, Nat.le_add_right _ _, .inr (.inr (.inr ⟨.inr (.inl rfl), h⟩))⟩
        · have hr' : partsN zs.length + 1 ≤ J.n - J.used := by omega
          subst hu
          obtain ⟨k1, k2⟩ := h.append hd' hdy' zs ⟨hl, hz⟩ hr'
          have hn := h.ring.n2
          have hwr := appendD_le S J (J.bytes zs) (partsN zs.length)
          cases hb : (appendD S J (J.bytes zs) (partsN zs.length)).2 with
          | true =>
            refine ⟨_, J.after (partsN zs.length + 1), 0, ?_, ⟨rfl, rfl, rfl⟩, ?_, .inl ⟨rfl, rfl, k1 hb⟩⟩
            · unfold appendR
              rw [if_neg hd, if_neg hdy, if_neg (by simp [hl]), if_neg hr, if_pos hb]
            · omega
          | false =>
            refine ⟨_, J.died, 10, ?_, ⟨rfl, rfl, rfl⟩, ?_, .inr (.inl ⟨rfl, rfl, k2 hb⟩)⟩
            · unfold appendR
              rw [if_neg hd, if_neg hdy, if_neg (by simp [hl]), if_neg hr, if_neg (by rw [hb]; decide)]
            · omega
      · exact ⟨S, J, 2, by unfold appendR; rw [if_neg hd, if_neg hdy, if_pos hl], ⟨rfl, rfl, rfl⟩, Nat.le_add_right _ _, .inr (.inr (.inr ⟨.inl rfl, h⟩))⟩
theorem JInv.resetted {S : St} {J : JS} {start : Nat} {sure : List (List Nat)} {under : List Nat} (h : JInv S J start sure under) (he : J.epoch < 2147483648) :
    ∃ J' c, resetR J = (J', c) ∧ ((c = 0 ∧ under = [] ∧ JInv S J' J.place [] [] ∧ J'.n = J.n ∧ J'.epoch = J.epoch + 1 ∧ J'.fr = J.fr ∧ J'.place = J.place) ∨ (c = 10 ∧ J' = J)) := by
  by_cases hd : J.dead = true
  · exact ⟨J, 10, if_pos hd, .inr ⟨rfl, rfl⟩⟩
  · have hd' : J.dead = false := by simpa using hd
    have h1 := h.reset hd' (by omega)
    have hr : resetR J = ({ J with epoch := J.epoch + 1, count := 0, used := 0, dirty := false }, 0) := by
      unfold resetR
      rw [if_neg hd, if_neg (by omega)]
    rw [hr] at h1
    exact ⟨_, 0, hr, .inl ⟨rfl, (h.alive hd').2.1, h1.1, rfl, rfl, rfl, rfl⟩⟩
theorem JInv.opened {S : St} {J : JS} {start : Nat} {sure : List (List Nat)} {under : List Nat} (h : JInv S J start sure under) (ks : List Int) (torn cut : Int) :
    (S.crashed ks torn cut).spent = S.crashed ks torn cut ∧ (S.crashed ks torn cut).see = (S.crashed ks torn cut).safe ∧
    ∃ ps, openPs (S.crashed ks torn cut).safe J.fr J.n J.epoch start = ps ∧ (ps = sure ∨ under ≠ [] ∧ ps = sure ++ [under]) ∧ JInv (S.crashed ks torn cut) (openJ (S.crashed ks torn cut).safe J.fr J.n J.epoch start) start ps [] := by
  refine ⟨spent_same rfl, see_safe rfl, ?_⟩
  obtain ⟨ps, h1, h2, h3⟩ := h.crash ks torn cut
  refine ⟨ps, h1, ?_, h3⟩
  rcases h2 with h2 | ⟨hd, h2⟩
  · exact .inl h2
  · refine .inr ⟨fun e => ?_, h2⟩
    have := (h.gone hd).1.1.1
    rw [e] at this
    simp at this
theorem strN_empty {zs : List Nat} : strN zs = ⟨#[]⟩ ↔ zs = [] := by
  constructor
  · intro h
    have := congrArg ByteArray.size h
    rw [strN_size] at this
    exact List.eq_nil_of_length_eq_zero this
  · rintro rfl; rfl

theorem strN_some {zs : List Nat} (h : zs ≠ []) : (strN zs).toList.isEmpty = false := by
  cases hl : (strN zs).toList with
  | nil =>
    exfalso
    rw [ByteArray.toList_eq] at hl
    have h1 : (strN zs).size = 0 := by
      show (strN zs).data.size = 0
      rw [← Array.length_toList, hl]; rfl
    rw [strN_size] at h1
    exact h (List.eq_nil_of_length_eq_zero h1)
  | cons a r => rfl

/-! ### Acts -/
structure Ac where
  kind : Int
  n : Int
  bv : Value
  bs : List Nat
  kv : Value
  ks : List Int
  torn : Int
  cut : Int
def acCells (c : Ac) : List Value := [.int .i64 c.kind, .int .i64 c.n, c.bv, c.kv, .int .i64 c.torn, .int .i64 c.cut]
def Acts (w : World) (v : Value) (cs : List Ac) : Prop :=
  cs.length ≤ maxLen ∧ ∃ a cap, v = .slice a cs.length cap ∧ (cs = [] ∨ ∃ b off, a = some ⟨b, off, none⟩ ∧ b < w.heap.size ∧ ∀ j c, cs[j]? = some c → (∀ i v, (acCells c)[i]? = some v → w.cell? ⟨b, off + j * 6 + i, none⟩ = some v) ∧ Octs w c.bv c.bs ∧ Ints w c.kv c.ks ∧ c.n ≤ 9223372036854775807)
end Go.Proofs.YthhdkadjlddmkaaDoor
