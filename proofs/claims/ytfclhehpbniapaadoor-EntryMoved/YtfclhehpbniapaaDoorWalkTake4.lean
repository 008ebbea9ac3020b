/- Contracts of 'within' and of a reading's 'take'. -/
import Derived.Test.YtfclhehpbniapaaDoorPack
import Derived.Test.YtfclhehpbniapaaDoorWalkSmall
namespace Go.Proofs.YtfclhehpbniapaaDoor
open Go.RowKit
set_option linter.unusedVariables false

theorem pwithin (n : Int) (w : World) : Calls Tryd.prog 31 #[.int .i64 n] w fun e w' => e = .returned (.int .i64 (cl n 8)) ∧ w' = w := by
  have E : Hid ((cl n 8 : Int) = max 0 (min n 8)) := cl_cast n 8
  by_cases h1 : 8 < n
  · go_enter Tryd.func31, Tryd.ntmps31
    go_wp2
    go_ret
    exact ⟨ret_int (by rw [E.out]; omega), rfl⟩
  · by_cases h2 : 0 < n
    · go_enter Tryd.func31, Tryd.ntmps31
      go_wp2
      go_ret
      exact ⟨ret_int (by rw [E.out]; omega), rfl⟩
    · go_enter Tryd.func31, Tryd.ntmps31
      go_wp2
      go_ret
      exact ⟨ret_int (by rw [E.out]; omega), rfl⟩

/-- Function f may be entered. -/
def Enters (f : Nat) : Prop := ∀ args w, Sem.run Tryd.prog (callFunc f args) w = .ok (.enter f args) w

set_option maxHeartbeats 400000 in
theorem take_raw (f : Nat) (caps : Array Value) (hcf : Enters f) (p b off l cap n : Nat) (w : World) (c0 : w.cell? ⟨p, 0, none⟩ = some (.slice (some ⟨b, off, none⟩) l cap)) (c1 : w.cell? ⟨p, 1, none⟩ = some (.bool false)) (f0 : w.frozen? ⟨p, 0, none⟩ = false)
    (hn : n ≤ l) (hl : l ≤ cap) (hcap : cap ≤ 9223372036854775807) (Q : World → Prop)
    (huse : ∀ x, (x = off + n ∨ l = n) → Calls Tryd.prog f (#[.slice (some ⟨b, off, none⟩) n cap] ++ caps) (w.setCell ⟨p, 0, none⟩ (.slice (some ⟨b, x, none⟩) (l - n) (cap - n))) fun e w' => e = .returned (.tuple #[]) ∧ Q w') :
    Calls Tryd.prog 30 #[.pointer (some ⟨p, 0, none⟩), .int .i64 n, .func (.func f) #[] caps] w fun e w' => e = .returned (.tuple #[]) ∧ Q w' := by
  have H : Hid (∀ x, (x = off + n ∨ l = n) → Calls Tryd.prog f (#[.slice (some ⟨b, off, none⟩) n cap] ++ caps) (w.setCell ⟨p, 0, none⟩ (.slice (some ⟨b, x, none⟩) (l - n) (cap - n))) fun e w' => e = .returned (.tuple #[]) ∧ Q w') := huse
  clear huse
  have hcf' : ∀ args w, Sem.run Tryd.prog (callFunc f args) w = .ok (.enter f args) w := hcf
  clear hcf
  by_cases h : cap = n
  · go_enter Tryd.func30, Tryd.ntmps30
    go_wp2_with fail
    have H0 := H.out off (.inr (by omega))
    rw [h, Nat.sub_self] at H0
    refine H0.mono ?_
    rintro e w1 ⟨rfl, hq⟩
    go_wp2
    go_end0
    exact ⟨rfl, hq⟩
  · go_enter Tryd.func30, Tryd.ntmps30
    go_wp2_with fail
    refine (H.out (off + n) (.inl rfl)).mono ?_
    rintro e w1 ⟨rfl, hq⟩
    go_wp2
    go_end0
    exact ⟨rfl, hq⟩

/-- Octets of a slice, sliced at the n-th: those ahead. -/
theorem Octs.front {w : World} {b off l cap n : Nat} {zs : List Nat} (h : Octs w (.slice (some ⟨b, off, none⟩) l cap) zs) (hn : n ≤ l) : Octs w (.slice (some ⟨b, off, none⟩) n cap) (zs.take n) := by
  have hl := h.lenEq
  have hln : (zs.take n).length = n := by rw [List.length_take]; omega
  have hsm := h.small
  have hcap : l ≤ cap ∧ cap ≤ maxLen ∧ l ≤ maxLen := by
    obtain ⟨_, h2, a', cap', e, h3, h4, _⟩ := h
    simp only [Value.slice.injEq] at e
    omega
  refine ⟨fun z hz => hsm z (List.mem_of_mem_take hz), by omega, some ⟨b, off, none⟩, cap, by rw [hln], by omega, hcap.2.1, .inr ⟨_, rfl, ?_⟩⟩
  by_cases h0 : n = 0
  · left; subst h0; rfl
  · right
    obtain ⟨b', off', e, hlt, hc⟩ := h.addr (by omega)
    simp only [Option.some.injEq, Addr.mk.injEq] at e
    obtain ⟨rfl, rfl, _⟩ := e
    refine ⟨b, off, rfl, hlt, fun j hj => ?_⟩
    rw [hln] at hj
    rw [hc j (by omega), List.getElem?_take_of_lt hj]
/-- And those behind. -/
theorem Octs.back {w : World} {b off l cap n x : Nat} {zs : List Nat} (h : Octs w (.slice (some ⟨b, off, none⟩) l cap) zs) (hn : n ≤ l) (hx : x = off + n ∨ l = n) : Octs w (.slice (some ⟨b, x, none⟩) (l - n) (cap - n)) (zs.drop n) := by
  have hl := h.lenEq
  have hln : (zs.drop n).length = l - n := by rw [List.length_drop]; omega
  have hsm := h.small
  have hcap : l ≤ cap ∧ cap ≤ maxLen ∧ l ≤ maxLen := by
    obtain ⟨_, h2, a', cap', e, h3, h4, _⟩ := h
    simp only [Value.slice.injEq] at e
    omega
  refine ⟨fun z hz => hsm z (List.mem_of_mem_drop hz), by omega, some ⟨b, x, none⟩, cap - n, by rw [hln], by omega, by omega, .inr ⟨_, rfl, ?_⟩⟩
  by_cases h0 : l = n
  · left; exact List.eq_nil_of_length_eq_zero (by omega)
  · right
    obtain rfl : x = off + n := by omega
    obtain ⟨b', off', e, hlt, hc⟩ := h.addr (by omega)
    simp only [Option.some.injEq, Addr.mk.injEq] at e
    obtain ⟨rfl, rfl, _⟩ := e
    refine ⟨b, off + n, rfl, hlt, fun j hj => ?_⟩
    rw [hln] at hj
    rw [Nat.add_assoc, hc (n + j) (by omega), List.getElem?_drop]

set_option maxHeartbeats 400000 in
/-- 'take' at a reading with nothing left: no octets. -/
theorem take_raw0 (f : Nat) (caps : Array Value) (hcf : Enters f) (p cap : Nat) (a : Option Addr) (w : World) (c0 : w.cell? ⟨p, 0, none⟩ = some (.slice a 0 cap)) (c1 : w.cell? ⟨p, 1, none⟩ = some (.bool false)) (f0 : w.frozen? ⟨p, 0, none⟩ = false)
    (hcap : cap ≤ 9223372036854775807) (ha : a = none → cap = 0) (Q : World → Prop)
    (huse : ∀ a', (a' = none → cap = 0) → Calls Tryd.prog f (#[.slice a 0 cap] ++ caps) (w.setCell ⟨p, 0, none⟩ (.slice a' 0 cap)) fun e w' => e = .returned (.tuple #[]) ∧ Q w') :
    Calls Tryd.prog 30 #[.pointer (some ⟨p, 0, none⟩), .int .i64 0, .func (.func f) #[] caps] w fun e w' => e = .returned (.tuple #[]) ∧ Q w' := by
  have H : Hid (∀ a', (a' = none → cap = 0) → Calls Tryd.prog f (#[.slice a 0 cap] ++ caps) (w.setCell ⟨p, 0, none⟩ (.slice a' 0 cap)) fun e w' => e = .returned (.tuple #[]) ∧ Q w') := huse
  clear huse
  have hcf' : ∀ args w, Sem.run Tryd.prog (callFunc f args) w = .ok (.enter f args) w := hcf
  clear hcf
  rcases a with _ | x
  · obtain rfl := ha rfl
    clear ha
    go_enter Tryd.func30, Tryd.ntmps30
    go_wp2_with fail
    refine (H.out _ (by simp)).mono ?_
    rintro e w1 ⟨rfl, hq⟩
    go_wp2
    go_end0
    exact ⟨rfl, hq⟩
  · clear ha
    by_cases h : cap = 0
    · go_enter Tryd.func30, Tryd.ntmps30
      go_wp2_with fail
      have H0 := H.out
      rw [h] at H0
      refine (H0 _ (by simp)).mono ?_
      rintro e w1 ⟨rfl, hq⟩
      go_wp2
      go_end0
      exact ⟨rfl, hq⟩
    · go_enter Tryd.func30, Tryd.ntmps30
      go_wp2_with fail
      refine (H.out _ (by simp)).mono ?_
      rintro e w1 ⟨rfl, hq⟩
      go_wp2
      go_end0
      exact ⟨rfl, hq⟩

/-- 'take' where there are so many: the octets are handed on, the rest is left. -/
theorem take_ok (f : Nat) (caps : Array Value) (hcf : Enters f) {p : Nat} {zs : List Nat} (n : Nat) {w : World} (hR : IsR w p ⟨zs, false⟩) (hn : n ≤ zs.length) (Q : World → Prop)
    (huse : ∀ w1 a c, Octs w1 (.slice a n c) (zs.take n) → IsR w1 p ⟨zs.drop n, false⟩ → Only p w w1 → w1.heap.size = w.heap.size → Calls Tryd.prog f (#[.slice a n c] ++ caps) w1 fun e w' => e = .returned (.tuple #[]) ∧ Q w') :
    Calls Tryd.prog 30 #[.pointer (some ⟨p, 0, none⟩), .int .i64 n, .func (.func f) #[] caps] w fun e w' => e = .returned (.tuple #[]) ∧ Q w' := by
  have hno := hR.noOct
  obtain ⟨v, h1, h2⟩ := hR
  have h2' : Octs w v zs := h2
  obtain ⟨a, cap, rfl⟩ := h2'.shape
  have hcap : zs.length ≤ cap ∧ cap ≤ maxLen ∧ (a = none → cap = 0) := by
    obtain ⟨_, _, a', cap', e, h3, h4, h5⟩ := h2'
    simp only [Value.slice.injEq] at e
    obtain ⟨rfl, _, rfl⟩ := e
    refine ⟨by omega, by omega, fun e => ?_⟩
    rcases h5 with h5 | ⟨x, h5, _⟩
    · exact h5.2
    · rw [h5] at e; cases e
  unfold maxLen at hcap
  have hO : ∀ u, Only p w (w.setCell ⟨p, 0, none⟩ u) := fun u => (Only.refl p w).setCell 0 u
  have hsz : ∀ u, (w.setCell ⟨p, 0, none⟩ u).heap.size = w.heap.size := fun u => by simp
  by_cases h0 : zs.length = 0
  · obtain rfl : n = 0 := by omega
    have hz : zs = [] := List.eq_nil_of_length_eq_zero h0
    subst hz
    refine take_raw0 f caps hcf p cap a w h1.cell.1 h1.cell.2 (h1.frozen 0) (by omega) hcap.2.2 Q fun a' ha' => ?_
    refine huse _ a cap (h2'.only hno (hO _)) ⟨_, h1.set0 _, ?_⟩ (hO _) (hsz _)
    refine ⟨by simp, by simp, a', cap, rfl, by simp, by unfold maxLen; omega, ?_⟩
    rcases a' with _ | x
    · exact .inl ⟨rfl, ha' rfl⟩
    · exact .inr ⟨x, rfl, .inl rfl⟩
  · obtain ⟨b, off, rfl, hlt, hc⟩ := h2'.addr (by omega)
    refine take_raw f caps hcf p b off zs.length cap n w h1.cell.1 h1.cell.2 (h1.frozen 0) hn (by omega) (by omega) Q fun x hx => ?_
    exact huse _ _ cap ((h2'.front hn).only hno (hO _)) ⟨_, h1.set0 _, (h2'.back hn hx).only hno (hO _)⟩ (hO _) (hsz _)

set_option maxHeartbeats 400000 in
theorem take_no (fn : Value) (p : Nat) (v : Value) (n : Int) (fail : Bool) (l cap : Nat) (a : Option Addr) (w : World) (c0 : w.cell? ⟨p, 0, none⟩ = some (.slice a l cap)) (c1 : w.cell? ⟨p, 1, none⟩ = some (.bool fail)) (f0 : w.frozen? ⟨p, 0, none⟩ = false) (f1 : w.frozen? ⟨p, 1, none⟩ = false)
    (hno : fail = true ∨ n < 0 ∨ l < n) :
    Calls Tryd.prog 30 #[.pointer (some ⟨p, 0, none⟩), .int .i64 n, fn] w fun e w' => e = .returned (.tuple #[]) ∧ w' = (w.setCell ⟨p, 0, none⟩ (.slice none 0 0)).setCell ⟨p, 1, none⟩ (.bool true) := by
  by_cases h1 : fail = true
  · subst h1
    clear hno
    go_enter Tryd.func30, Tryd.ntmps30
    go_wp2
    (try simp only [Exit.inBlock, Exit.then])
    refine bodyPost_ret (results_none rfl _ _ _) rfl ?_
    exact ⟨rfl, rfl⟩
  · obtain rfl : fail = false := by simpa using h1
    by_cases h2 : n < 0
    · clear hno h1
      go_enter Tryd.func30, Tryd.ntmps30
      go_wp2
      (try simp only [Exit.inBlock, Exit.then])
      refine bodyPost_ret (results_none rfl _ _ _) rfl ?_
      exact ⟨rfl, rfl⟩
    · have h3 : (l : Int) < n := by simpa [h2] using hno
      clear hno h1
      go_enter Tryd.func30, Tryd.ntmps30
      go_wp2
      (try simp only [Exit.inBlock, Exit.then])
      refine bodyPost_ret (results_none rfl _ _ _) rfl ?_
      exact ⟨rfl, rfl⟩

/-- A reading that has failed. -/
def RS.failed : RS := ⟨[], true⟩
/-- 'take' where there aren't so many, or that has failed: it fails. -/
theorem take_fails (fn : Value) {p : Nat} {s : RS} (n : Int) {w : World} (hR : IsR w p s) (hno : s.fail = true ∨ n < 0 ∨ s.zs.length < n) :
    Calls Tryd.prog 30 #[.pointer (some ⟨p, 0, none⟩), .int .i64 n, fn] w fun e w' => e = .returned (.tuple #[]) ∧ IsR w' p .failed ∧ Only p w w' ∧ w'.heap.size = w.heap.size := by
  obtain ⟨v, h1, h2⟩ := hR
  obtain ⟨a, cap, rfl⟩ := h2.shape
  refine (take_no fn p (.bool false) n s.fail s.zs.length cap a w h1.cell.1 h1.cell.2 (h1.frozen 0) (h1.frozen 1) hno).mono ?_
  rintro e w' ⟨rfl, rfl⟩
  refine ⟨rfl, ⟨_, (h1.set0 _).set1 _, ?_⟩, ((Only.refl p w).setCell 0 _).setCell 1 _, by simp⟩
  exact ⟨by simp [RS.failed], by simp [RS.failed], none, 0, rfl, by simp [RS.failed], by simp, .inl ⟨rfl, rfl⟩⟩
end Go.Proofs.YtfclhehpbniapaaDoor
