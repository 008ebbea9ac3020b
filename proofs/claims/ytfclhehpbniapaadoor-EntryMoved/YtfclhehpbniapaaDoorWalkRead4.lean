/- Contracts of a reading's methods. -/
import Derived.Test.YtfclhehpbniapaaDoorWalkTake4
import Derived.Test.YtfclhehpbniapaaDoorWalkGet
namespace Go.Proofs.YtfclhehpbniapaaDoor
open Go.RowKit
set_option linter.unusedVariables false

/-- So many octets can be taken off. -/
def RS.can (s : RS) (n : Nat) : Bool := !s.fail && decide (n ≤ s.zs.length)
/-- The octets that are taken off. -/
def RS.oct (s : RS) (n : Nat) : List Nat := if s.can n then s.zs.take n else []
/-- What is left behind it. -/
def RS.off (s : RS) (n : Nat) : RS := if s.can n then ⟨s.zs.drop n, false⟩ else .failed
theorem RS.can_iff {s : RS} {n : Nat} : s.can n = true ↔ s.fail = false ∧ n ≤ s.zs.length := by simp [RS.can]
theorem RS.cannot {s : RS} {n : Nat} (h : ¬ s.can n = true) : s.fail = true ∨ (n : Int) < 0 ∨ (s.zs.length : Int) < n := by
  rw [RS.can_iff] at h
  cases hf : s.fail
  · right; right
    have : ¬ n ≤ s.zs.length := fun e => h ⟨hf, e⟩
    omega
  · left; rfl

/-- The number of octets, as layer 1 gets it. -/
def getO (zs : List Nat) : Int := getI (zs.map Int.ofNat)
theorem getO_nil : getO [] = 0 := by decide +kernel

theorem get_octs (v : Value) (zs : List Nat) (w : World) (h : Octs w v zs) : Calls Tryd.prog 33 #[v] w fun e w' => e = .returned (.int .i64 (getO zs)) ∧ w' = w := by
  have hl := h.len
  have hsm := h.small
  obtain ⟨a, cap, rfl⟩ := h.shape
  by_cases h0 : zs.length = 0
  · have : zs = [] := List.eq_nil_of_length_eq_zero h0
    subst this
    exact get_empty a cap w
  · obtain ⟨b, off, rfl, _, hc⟩ := h.addr (by omega)
    have := get_any b off cap (zs.map Int.ofNat) w (fun z hz => by
      rw [List.mem_map] at hz
      obtain ⟨y, hy, rfl⟩ := hz
      have := hsm y hy
      simp only [Int.ofNat_eq_natCast]; omega) (by simpa using hl) (fun j hj => by
      rw [List.length_map] at hj
      rw [hc j hj]
      simp [List.getElem?_map, List.getElem?_eq_getElem hj])
    rwa [List.length_map] at this

theorem enters_num : Enters 32 := fun _ _ => rfl

theorem num_use (v : Value) (zs : List Nat) (q : Nat) (w : World) (h : Octs w v zs) (u : Value) (hq : w.heap[q]? = some (.cells #[u] 3 (0, 0))) :
    Calls Tryd.prog 32 #[v, .pointer (some ⟨q, 0, none⟩)] w fun e w' => e = .returned (.tuple #[]) ∧ w' = w.setCell ⟨q, 0, none⟩ (.int .i64 (getO zs)) := by
  have cq := cell_of_one hq
  have fq := free_of_one hq
  have H : Hid (Octs w v zs) := h
  obtain ⟨a, cap, rfl⟩ := h.shape
  clear h hq
  go_enter Tryd.func32, Tryd.ntmps32
  go_wp2_with fail
  refine (get_octs _ _ _ H.out).mono ?_
  rintro e w' ⟨rfl, rfl⟩
  go_wp2
  go_end0
  exact ⟨rfl, rfl⟩

/-- 'take' with a closure that fills a variable of its own: where there are so many octets. -/
theorem take_fill (f : Nat) (hcf : Enters f) (t : TypeId) (z0 : Value) (hz0 : ∀ z, z0 ≠ .int .u8 z) (val : Value) {w : World} {p : Nat} {zs : List Nat} (hR : IsR w p ⟨zs, false⟩) (n : Nat) (hn : n ≤ zs.length)
    (huse : ∀ w1 v q, Octs w1 v (zs.take n) → w1.heap[q]? = some (.cells #[z0] t (0, 0)) → Calls Tryd.prog f #[v, .pointer (some ⟨q, 0, none⟩)] w1 fun e w' => e = .returned (.tuple #[]) ∧ w' = w1.setCell ⟨q, 0, none⟩ val) :
    Calls Tryd.prog 30 #[.pointer (some ⟨p, 0, none⟩), .int .i64 n, .func (.func f) #[] #[.pointer (some ⟨w.heap.size, 0, none⟩)]] (w.alloc (.cells #[z0] t)) fun e w' =>
      e = .returned (.tuple #[]) ∧ w'.cell? ⟨w.heap.size, 0, none⟩ = some val ∧ IsR w' p ⟨zs.drop n, false⟩ ∧ Only p w w' := by
  have hlt := hR.lt
  refine take_ok f _ hcf n (hR.alloc _) hn (fun w' => w'.cell? ⟨w.heap.size, 0, none⟩ = some val ∧ IsR w' p ⟨zs.drop n, false⟩ ∧ Only p w w') fun w1 a c ho hr hk hs => ?_
  have hq : w1.heap[w.heap.size]? = some (.cells #[z0] t (0, 0)) := (hk.heap (by simp) (by omega)).trans (heap_alloc_new w _)
  refine (huse w1 (.slice a n c) w.heap.size ho hq).mono ?_
  rintro e w' ⟨rfl, rfl⟩
  have hno : NoOct w1 w.heap.size := by
    intro i z e
    rw [cell_of_row w1 _ _ _ _ _ hq] at e
    match i, e with
    | 0, e => exact hz0 z (by simpa using e)
    | i + 1, e => simp at e
  refine ⟨rfl, cell_of_one (one_setCell hq), hr.only hno (by omega) ((Only.refl _ _).setCell 0 _), ?_⟩
  exact ((Only.refl p w).alloc _).trans hk |>.setNew (Nat.le_refl _) _
/-- And where there aren't, or it has failed. -/
theorem take_empty (fn : Value) (t : TypeId) (z0 : Value) {w : World} {p : Nat} {s : RS} (hR : IsR w p s) (n : Int) (hno : s.fail = true ∨ n < 0 ∨ s.zs.length < n) :
    Calls Tryd.prog 30 #[.pointer (some ⟨p, 0, none⟩), .int .i64 n, fn] (w.alloc (.cells #[z0] t)) fun e w' =>
      e = .returned (.tuple #[]) ∧ w'.cell? ⟨w.heap.size, 0, none⟩ = some z0 ∧ IsR w' p .failed ∧ Only p w w' := by
  have hlt := hR.lt
  refine (take_fails fn n (hR.alloc _) hno).mono ?_
  rintro e w' ⟨rfl, hr, hk, _⟩
  have hq : w'.heap[w.heap.size]? = some (.cells #[z0] t (0, 0)) := (hk.heap (by simp) (by omega)).trans (heap_alloc_new w _)
  exact ⟨rfl, cell_of_one hq, hr, ((Only.refl p w).alloc _).trans hk⟩

theorem rnum_any {w : World} {p : Nat} {s : RS} (hR : IsR w p s) (size : Int) :
    Calls Tryd.prog 20 #[.pointer (some ⟨p, 0, none⟩), .int .i64 size] w fun e w' => e = .returned (.int .i64 (getO (s.oct (cl size 8)))) ∧ IsR w' p (s.off (cl size 8)) ∧ Only p w w' := by
  have hmf : ∀ (fn : Fn) (first cap : Array Value) (w : World), (Instr.makeFunc fn first cap).run Tryd.prog w = .ok (.func fn first cap) w := fun _ _ _ _ => rfl
  have H : Hid (IsR w p s) := hR
  clear hR
  have E1 : Hid (s.can (cl size 8) = true → s.oct (cl size 8) = s.zs.take (cl size 8) ∧ s.off (cl size 8) = ⟨s.zs.drop (cl size 8), false⟩) := fun h => ⟨if_pos h, if_pos h⟩
  have E2 : Hid (¬ s.can (cl size 8) = true → getO (s.oct (cl size 8)) = 0 ∧ s.off (cl size 8) = .failed) := fun h => ⟨by unfold RS.oct; rw [if_neg h, getO_nil], if_neg h⟩
  have HC : Hid (s.can (cl size 8) = true → IsR w p ⟨s.zs, false⟩ ∧ cl size 8 ≤ s.zs.length) := fun h => by
    have h2 := RS.can_iff.1 h
    refine ⟨?_, h2.2⟩
    have := H.out
    rwa [show s = ⟨s.zs, false⟩ from by rw [← h2.1]] at this
  have HN : Hid (¬ s.can (cl size 8) = true → _) := fun h => RS.cannot h
  go_enter Tryd.func20, Tryd.ntmps20
  go_wp2_with fail
  refine (pwithin size _).mono ?_
  rintro e w' ⟨rfl, rfl⟩
  go_wp2_with fail
  by_cases h : s.can (cl size 8) = true
  · refine (take_fill _ enters_num 3 _ (by simp) (.int .i64 (getO (s.zs.take (cl size 8)))) (HC.out h).1 (cl size 8) (HC.out h).2 fun w1 v q ho hq => num_use v _ q w1 ho _ hq).mono ?_
    rintro e w1 ⟨rfl, hcell, hr, hk⟩
    go_wp2
    go_ret
    rw [(E1.out h).1, (E1.out h).2]
    exact ⟨rfl, hr, hk⟩
  · refine (take_empty _ 3 _ H.out (cl size 8) (HN.out h)).mono ?_
    rintro e w1 ⟨rfl, hcell, hr, hk⟩
    go_wp2
    go_ret
    rw [(E2.out h).1, (E2.out h).2]
    exact ⟨rfl, hr, hk⟩

def RS.done (s : RS) : Bool := !s.fail && decide (s.zs.length = 0)
theorem done_any {w : World} {p : Nat} {s : RS} (hR : IsR w p s) :
    Calls Tryd.prog 21 #[.pointer (some ⟨p, 0, none⟩)] w fun e w' => e = .returned (.bool s.done) ∧ w' = w := by
  obtain ⟨v, h1, h2⟩ := hR
  have c0 := h1.cell.1
  have c1 := h1.cell.2
  obtain ⟨a, cap, rfl⟩ := h2.shape
  clear h1 h2
  have HD : Hid (s.done = (!s.fail && decide (s.zs.length = 0))) := rfl
  generalize s.done = d at HD ⊢
  generalize s.zs.length = m at c0 HD ⊢
  generalize s.fail = fl at c1 HD ⊢
  by_cases hm : m = 0
  · cases fl <;>
    · go_enter Tryd.func21, Tryd.ntmps21
      go_wp2
      go_ret
      exact ⟨ret_bool (by rw [HD.out]; simp [hm]), rfl⟩
  · have hm' : ¬ (m : Int) = 0 := by omega
    cases fl <;>
    · go_enter Tryd.func21, Tryd.ntmps21
      go_wp2
      go_ret
      exact ⟨ret_bool (by rw [HD.out]; simp [hm]), rfl⟩
end Go.Proofs.YtfclhehpbniapaaDoor
