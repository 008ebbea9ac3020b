/- Contracts of the disk's small methods. -/
import Derived.Test.YtjjodmppneonjaaDisk
namespace Go.Proofs.Ytjjodmppneonjaa
open Go.RowKit
set_option linter.unusedVariables false

def St.spent (S : St) : St := { S with left := if 0 < S.left then S.left - 1 else S.left }

set_option maxHeartbeats 400000 in
theorem spend_raw (w : World) (b : Nat) (l : Int) (c4 : w.cell? ⟨b, 4, none⟩ = some (.int .i64 l)) (f4 : w.frozen? ⟨b, 4, none⟩ = false) (h1 : -1 ≤ l) (h2 : l ≤ 9223372036854775807) :
    Calls Try.prog 26 #[.pointer (some ⟨b, 0, none⟩)] w fun e w' => e = .returned (.bool (decide (l ≠ 0))) ∧ ((l ≤ 0 ∧ w' = w) ∨ (0 < l ∧ w' = w.setCell ⟨b, 4, none⟩ (.int .i64 (l - 1)))) := by
  by_cases h0 : l = 0
  · subst h0
    go_enter Try.func26, Try.ntmps26
    go_wp2
    go_ret
    exact ⟨by simp, .inl ⟨by omega, rfl⟩⟩
  · by_cases h3 : 0 < l
    · have e1 : IntKind.i64.wrap (l - 1) = l - 1 := by rw [IntKind.wrap_i64]; omega
      go_enter Try.func26, Try.ntmps26
      go_wp2
      go_ret
      first
        | exact ⟨by simp [h0], .inr ⟨h3, rfl⟩⟩
        | exact ⟨by simp [h0], rfl⟩
    · go_enter Try.func26, Try.ntmps26
      go_wp2
      go_ret
      first
        | exact ⟨by simp [h0], .inl ⟨by omega, rfl⟩⟩
        | exact ⟨by simp, .inl rfl⟩

theorem spend_v {K : Nat → Prop} {w : World} {L : Loc} {S : St} (h : IsDisk K w L S) :
    Calls Try.prog 26 #[.pointer (some ⟨L.b, 0, none⟩)] w fun e w' => e = .returned (.bool (decide (S.left ≠ 0))) ∧ IsDisk K w' L S.spent ∧ Kept K w w' := by
  refine (spend_raw w L.b S.left h.head.cell.2.2.2.2 (h.head.frozen 4) h.ok.l1 h.ok.l2).mono ?_
  rintro e w' ⟨rfl, ⟨h0, rfl⟩ | ⟨h0, rfl⟩⟩
  · refine ⟨rfl, ?_, Kept.refl _ _⟩
    rw [St.spent, if_neg (by omega)]; exact h
  · refine ⟨rfl, ?_, (Kept.refl _ _).setCell (h.nK _ (.inl rfl)) _⟩
    rw [St.spent, if_pos h0]
    have := h.ok.l2
    exact h.setLeft _ (by omega) (by omega)

def hasN (n : Nat) (at' k : Int) : Bool := decide (0 ≤ at' ∧ at' ≤ n ∧ 0 ≤ k ∧ k ≤ n - at')
set_option maxHeartbeats 800000 in
theorem has_raw (w : World) (b sb n : Nat) (at' k : Int) (c0 : w.cell? ⟨b, 0, none⟩ = some (.slice (some ⟨sb, 0, none⟩) n n)) (hn : n ≤ 65536) :
    Calls Try.prog 25 #[.pointer (some ⟨b, 0, none⟩), .int .i64 at', .int .i64 k] w fun e w' => e = .returned (.bool (hasN n at' k)) ∧ w' = w := by
  have HB : Hid (hasN n at' k = decide (0 ≤ at' ∧ at' ≤ n ∧ 0 ≤ k ∧ k ≤ n - at')) := rfl
  generalize hasN n at' k = B at HB
  by_cases h1 : 0 ≤ at'
  · by_cases h2 : at' ≤ n
    · by_cases h3 : 0 ≤ k
      · have e1 : IntKind.i64.wrap ((n : Int) - at') = n - at' := by rw [IntKind.wrap_i64]; omega
        by_cases h4 : k ≤ n - at'
        · go_enter Try.func25, Try.ntmps25
          go_wp2
          go_ret
          exact ⟨by rw [HB.out, decide_eq_true (by omega)]; rfl, rfl⟩
        · go_enter Try.func25, Try.ntmps25
          go_wp2
          go_ret
          exact ⟨by rw [HB.out, decide_eq_false (by omega)]; rfl, rfl⟩
      · go_enter Try.func25, Try.ntmps25
        go_wp2
        go_ret
        exact ⟨by rw [HB.out, decide_eq_false (by omega)]; rfl, rfl⟩
    · go_enter Try.func25, Try.ntmps25
      go_wp2
      go_ret
      exact ⟨by rw [HB.out, decide_eq_false (by omega)]; rfl, rfl⟩
  · go_enter Try.func25, Try.ntmps25
    go_wp2
    go_ret
    exact ⟨by rw [HB.out, decide_eq_false (by omega)]; rfl, rfl⟩
theorem has_v {K : Nat → Prop} {w : World} {L : Loc} {S : St} (h : IsDisk K w L S) (at' k : Int) :
    Calls Try.prog 25 #[.pointer (some ⟨L.b, 0, none⟩), .int .i64 at', .int .i64 k] w fun e w' => e = .returned (.bool (hasN S.n at' k)) ∧ w' = w :=
  has_raw w L.b L.sb S.n at' k h.head.cell.1 h.ok.n2

theorem size_v {K : Nat → Prop} {w : World} {L : Loc} {S : St} (h : IsDisk K w L S) :
    Calls Try.prog 9 #[.pointer (some ⟨L.b, 0, none⟩)] w fun e w' => e = .returned (.int .i64 (S.n : Nat)) ∧ w' = w := by
  have c0 := h.head.cell.1
  clear h
  go_enter Try.func9, Try.ntmps9
  go_wp2
  go_ret
  exact ⟨rfl, rfl⟩
theorem writes_v {K : Nat → Prop} {w : World} {L : Loc} {S : St} (h : IsDisk K w L S) :
    Calls Try.prog 20 #[.pointer (some ⟨L.b, 0, none⟩)] w fun e w' => e = .returned (.int .i64 (S.written : Nat)) ∧ w' = w := by
  have c0 := h.head.cell.2.2.2.1
  clear h
  go_enter Try.func20, Try.ntmps20
  go_wp2
  go_ret
  exact ⟨rfl, rfl⟩
theorem wv_shape {w : World} {wv : Value} {n : Nat} {xs : List Value} (h : w.ownsRow 0 64 129 wv n xs) : ∃ a cap, wv = .slice a n cap := by
  rcases h.2 with ⟨rfl, h0⟩ | ⟨g, cap, cur, rfl, _⟩
  · exact ⟨none, 0, by rw [h0]⟩
  · exact ⟨_, cap, rfl⟩
theorem waiting_v {K : Nat → Prop} {w : World} {L : Loc} {S : St} (h : IsDisk K w L S) :
    Calls Try.prog 19 #[.pointer (some ⟨L.b, 0, none⟩)] w fun e w' => e = .returned (.int .i64 (S.waits.length : Nat)) ∧ w' = w := by
  have c1 := h.head.cell.2.1
  obtain ⟨a, cap, e⟩ := wv_shape h.waits
  rw [e] at c1
  clear h e
  generalize S.waits.length = m at c1
  go_enter Try.func19, Try.ntmps19
  go_wp2
  go_ret
  exact ⟨rfl, rfl⟩
def limitOf (c : Int) : Int := if c < 0 then -1 else c
set_option maxHeartbeats 400000 in
theorem limit_v {K : Nat → Prop} {w : World} {L : Loc} {S : St} (h : IsDisk K w L S) (c : Int) (hc : c ≤ 9223372036854775807) :
    Calls Try.prog 18 #[.pointer (some ⟨L.b, 0, none⟩), .int .i64 c] w fun e w' => (∃ v, e = .returned v) ∧ IsDisk K w' L { S with left := limitOf c } ∧ Kept K w w' := by
  have H : Hid (IsDisk K w L S) := h
  have c4 := h.head.cell.2.2.2.2
  have f4 := h.head.frozen 4
  have n4 := h.nK _ (.inl rfl)
  clear h
  have HL : Hid (limitOf c = if c < 0 then -1 else c) := rfl
  by_cases h0 : c < -1
  · go_enter Try.func18, Try.ntmps18
    go_wp2
    go_end0
    refine ⟨⟨_, rfl⟩, ?_, (Kept.refl _ _).setCell n4 _⟩
    rw [HL.out, if_pos (by omega)]
    exact H.out.setLeft _ (by omega) (by omega)
  · go_enter Try.func18, Try.ntmps18
    go_wp2
    go_end0
    refine ⟨⟨_, rfl⟩, ?_, (Kept.refl _ _).setCell n4 _⟩
    rw [HL.out]
    have : (if c < 0 then -1 else c) = c := by split <;> omega
    rw [this]
    exact H.out.setLeft _ (by omega) (by omega)
end Go.Proofs.Ytjjodmppneonjaa
