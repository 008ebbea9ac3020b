/- Some texts of mine, one behind the other (joined by program). -/
import Derived.Test.YthhdkadjlddmkaaDoorJrnM
import Derived.Test.YthhdkadjlddmkaaDoorRecW
import Derived.BigQuiet
import Derived.Test.YthhdkadjlddmkaaDoorDiskW
import Derived.Test.YthhdkadjlddmkaaDoorWalkTake4
import Derived.Deep.RegionHeld3
import Derived.Test.YthhdkadjlddmkaaDoorOctCopy
import Derived.Lib.AppendStr
import Derived.Test.YthhdkadjlddmkaaDoorWalkSum
import Derived.Deep.DeepMust
import Derived.Test.YthhdkadjlddmkaaDoorAppOcts
import Derived.Maps.AppendAt
import Derived.Test.YthhdkadjlddmkaaDoorOpens
import Derived.Deep.Matrix

/- How a journal lies in memory, and the contracts of the calls that only read it. -/
namespace Go.Proofs.YthhdkadjlddmkaaDoor
open Go.RowKit
set_option linter.unusedVariables false

def JHead (w : World) (p b : Nat) (J : JS) : Prop :=
  w.heap[p]? = some (.cells #[.pointer (some ⟨b, 0, none⟩), .int .i64 (J.fr : Nat), .int .i64 (J.n : Nat), .int .i64 (J.place : Nat), .int .i64 (J.used : Nat), .int .i64 (J.epoch : Nat), .int .i64 (J.count : Nat), .bool J.dirty, .bool J.dead] 64 (0, 0))
theorem JHead.cell {w : World} {p b : Nat} {J : JS} (h : JHead w p b J) : w.cell? ⟨p, 0, none⟩ = some (.pointer (some ⟨b, 0, none⟩)) ∧ w.cell? ⟨p, 1, none⟩ = some (.int .i64 (J.fr : Nat)) ∧ w.cell? ⟨p, 2, none⟩ = some (.int .i64 (J.n : Nat)) ∧ w.cell? ⟨p, 3, none⟩ = some (.int .i64 (J.place : Nat)) ∧ w.cell? ⟨p, 4, none⟩ = some (.int .i64 (J.used : Nat)) ∧ w.cell? ⟨p, 5, none⟩ = some (.int .i64 (J.epoch : Nat)) ∧ w.cell? ⟨p, 6, none⟩ = some (.int .i64 (J.count : Nat)) ∧ w.cell? ⟨p, 7, none⟩ = some (.bool J.dirty) ∧ w.cell? ⟨p, 8, none⟩ = some (.bool J.dead) := by
  unfold JHead at h
  refine ⟨?_, ?_, ?_, ?_, ?_, ?_, ?_, ?_, ?_⟩ <;> rw [cell_of_row w p _ _ _ _ h] <;> rfl
theorem JHead.frozen {w : World} {p b : Nat} {J : JS} (h : JHead w p b J) (i : Nat) : w.frozen? ⟨p, i, none⟩ = false := by
  simp [World.frozen?, show w.heap[p]? = _ from h]
theorem JHead.lt {w : World} {p b : Nat} {J : JS} (h : JHead w p b J) : p < w.heap.size := (Array.getElem?_eq_some_iff.1 h).1
theorem JHead.same {w w' : World} {p b : Nat} {J : JS} (h : JHead w p b J) (hb : w'.heap[p]? = w.heap[p]?) : JHead w' p b J := hb.trans h
theorem JHead.noOct {w : World} {p b : Nat} {J : JS} (h : JHead w p b J) : NoOct w p := by
  intro i z e
  rw [cell_of_row w p _ _ _ _ h] at e
  match i, e with
  | 0, e => simp at e
  | 1, e => simp at e
  | 2, e => simp at e
  | 3, e => simp at e
  | 4, e => simp at e
  | 5, e => simp at e
  | 6, e => simp at e
  | 7, e => simp at e
  | 8, e => simp at e
  | i + 9, e => simp at e
theorem JHead.set {w : World} {p b : Nat} {J J' : JS} (h : JHead w p b J) (i : Nat) (u : Value)
    (e : (#[.pointer (some ⟨b, 0, none⟩), .int .i64 (J.fr : Nat), .int .i64 (J.n : Nat), .int .i64 (J.place : Nat), .int .i64 (J.used : Nat), .int .i64 (J.epoch : Nat), .int .i64 (J.count : Nat), .bool J.dirty, .bool J.dead] : Array Value).setIfInBounds i u = #[.pointer (some ⟨b, 0, none⟩), .int .i64 (J'.fr : Nat), .int .i64 (J'.n : Nat), .int .i64 (J'.place : Nat), .int .i64 (J'.used : Nat), .int .i64 (J'.epoch : Nat), .int .i64 (J'.count : Nat), .bool J'.dirty, .bool J'.dead]) :
    JHead (w.setCell ⟨p, i, none⟩ u) p b J' := by
  have := heap_set_row h i u
  rw [e] at this
  exact this

def wi7 (n l m : Int) : Bool := decide (l ≤ n ∧ n ≤ m)
theorem within7 (n l m : Int) (w : World) : Calls Tryd.prog 23 #[.int .i64 n, .int .i64 l, .int .i64 m] w fun x w' => x = .returned (.bool (wi7 n l m)) ∧ w' = w := by
  by_cases h1 : l ≤ n
  · by_cases h2 : n ≤ m
    · go_enter Tryd.func23, Tryd.ntmps23
      go_wp2
      go_ret
      exact ⟨ret_bool (decide_eq_true ⟨h1, h2⟩).symm, rfl⟩
    · go_enter Tryd.func23, Tryd.ntmps23
      go_wp2
      go_ret
      exact ⟨ret_bool (decide_eq_false (fun h => by omega)).symm, rfl⟩
  · go_enter Tryd.func23, Tryd.ntmps23
    go_wp2
    go_ret
    exact ⟨ret_bool (decide_eq_false (fun h => by omega)).symm, rfl⟩
theorem epoch7 (w : World) (p b : Nat) (J : JS) (h : JHead w p b J) : Calls Tryd.prog 12 #[.pointer (some ⟨p, 0, none⟩)] w fun x w' => x = .returned (.int .i64 (J.epoch : Nat)) ∧ w' = w := by
  obtain ⟨-, -, -, -, -, c5, -⟩ := h.cell
  clear h
  go_enter Tryd.func12, Tryd.ntmps12
  go_wp2
  go_ret
  exact ⟨rfl, rfl⟩
theorem used7 (w : World) (p b : Nat) (J : JS) (h : JHead w p b J) : Calls Tryd.prog 19 #[.pointer (some ⟨p, 0, none⟩)] w fun x w' => x = .returned (.int .i64 (J.used : Nat)) ∧ w' = w := by
  obtain ⟨-, -, -, -, c4, -⟩ := h.cell
  clear h
  go_enter Tryd.func19, Tryd.ntmps19
  go_wp2
  go_ret
  exact ⟨rfl, rfl⟩
theorem place7 (w : World) (p b : Nat) (J : JS) (h : JHead w p b J) : Calls Tryd.prog 13 #[.pointer (some ⟨p, 0, none⟩)] w fun x w' => x = .returned (.int .i64 (J.place : Nat)) ∧ w' = w := by
  obtain ⟨-, -, -, c3, -⟩ := h.cell
  clear h
  go_enter Tryd.func13, Tryd.ntmps13
  go_wp2
  go_ret
  exact ⟨rfl, rfl⟩
theorem rfree7 (w : World) (p b : Nat) (J : JS) (h : JHead w p b J) (h1 : J.used ≤ J.n) (h2 : J.n ≤ 4096) : Calls Tryd.prog 33 #[.pointer (some ⟨p, 0, none⟩)] w fun x w' => x = .returned (.int .i64 ((J.n - J.used : Nat) : Int)) ∧ ∃ m, w' = w.drewN m := by
  obtain ⟨-, -, c2, -, c4, -⟩ := h.cell
  clear h
  have hs : ((J.n : Nat) : Int) - (J.used : Nat) = ((J.n - J.used : Nat) : Int) := by omega
  have hw : wrap64 ((J.n - J.used : Nat) : Int) = ((J.n - J.used : Nat) : Int) := by unfold wrap64; omega
  have hw2 : IntKind.i64.wrap ((J.n - J.used : Nat) : Int) = ((J.n - J.used : Nat) : Int) := by rw [IntKind.wrap_i64]; omega
  generalize J.n - J.used = fr at *
  clear h1 h2
  go_enter Tryd.func33, Tryd.ntmps33
  go_wp2_with fail
  go_quiet (fail)
  go_wp2
  go_ret
  exact ⟨rfl, _, rfl⟩
end Go.Proofs.YthhdkadjlddmkaaDoor

/- Contracts of the journal's smaller calls: Free, Fits, Reset, and what goes behind a transaction. -/
namespace Go.Proofs.YthhdkadjlddmkaaDoor
open Go.RowKit
set_option linter.unusedVariables false

theorem free7 (w : World) (p b : Nat) (J : JS) (h : JHead w p b J) (h1 : J.used ≤ J.n) (h2 : J.n ≤ 4096) : Calls Tryd.prog 20 #[.pointer (some ⟨p, 0, none⟩)] w fun x w' => x = .returned (.int .i64 ((J.n - J.used : Nat) : Int)) ∧ ∃ m, w' = w.drewN m := by
  go_enter Tryd.func20, Tryd.ntmps20
  go_wp2_with fail
  refine (rfree7 w p b J h h1 h2).mono ?_
  rintro x w1 ⟨rfl, m, rfl⟩
  go_wp2
  go_ret
  exact ⟨rfl, m, rfl⟩
theorem fits7 (w : World) (p b : Nat) (J : JS) (m : Int) (h : JHead w p b J) (h1 : J.used ≤ J.n) (h2 : J.n ≤ 4096) (h3 : -9223372036854775808 ≤ m) (h4 : m ≤ 9223372036854775807) :
    Calls Tryd.prog 17 #[.pointer (some ⟨p, 0, none⟩), .int .i64 m] w fun x w' => x = .returned (.bool (fitsB J m)) ∧ ∃ q, w' = w.drewN q := by
  have HH : Hid (JHead w p b J) := h
  have HE : Hid (wi7 (sectorsN m) 1 ((J.n - J.used : Nat) : Int) = fitsB J m) := by
    show decide _ = decide _
    exact decide_eq_decide.2 ⟨fun h => ⟨by omega, h.2⟩, fun h => ⟨by omega, h.2⟩⟩
  have HSX : Hid ((if 1 ≤ m ∧ m ≤ 65000 then (m + 111) / 112 + 1 else 0) = sectorsN m) := rfl
  generalize hs : sectorsN m = s at *
  clear hs h
  go_enter Tryd.func17, Tryd.ntmps17
  go_wp2_with fail
  refine (sectors6 m w h3 h4).mono ?_
  rintro x w1 ⟨rfl, hw1⟩
  rw [hw1, HSX.out]
  clear hw1 w1 HSX
  go_wp2_with fail
  refine (rfree7 w p b J HH.out h1 h2).mono ?_
  rintro x w1 ⟨rfl, q, rfl⟩
  go_wp2_with fail
  refine (within7 _ _ _ _).mono ?_
  rintro x w1 ⟨rfl, rfl⟩
  rw [HE.out]
  go_wp2
  go_ret
  exact ⟨rfl, q, rfl⟩
theorem behind_mod {c s n : Nat} (hc : c < n) (hs : s ≤ n) : (c + s) % n = if n ≤ c + s then c + s - n else c + s := by
  split
  · rw [Nat.mod_eq_sub_mod (by omega)]; exact Nat.mod_eq_of_lt (by omega)
  · exact Nat.mod_eq_of_lt (by omega)
theorem behind7 (w : World) (p b : Nat) (J : JS) (s : Nat) (h : JHead w p b J) (h1 : J.place < J.n) (h2 : J.n ≤ 4096) (h3 : s ≤ J.n) :
    Calls Tryd.prog 40 #[.pointer (some ⟨p, 0, none⟩), .int .i64 (s : Nat)] w fun x w' => x = .returned (.int .i64 (((J.place + s) % J.n : Nat) : Int)) ∧ w' = w := by
  obtain ⟨-, -, c2, c3, -⟩ := h.cell
  clear h
  rw [behind_mod h1 h3]
  generalize J.n = n at *
  generalize J.place = c at *
  have e1 : ((c : Nat) : Int) + (s : Nat) = ((c + s : Nat) : Int) := by omega
  have e2 : wrap64 ((c + s : Nat) : Int) = ((c + s : Nat) : Int) := by unfold wrap64; omega
  by_cases hle : n ≤ c + s
  · rw [if_pos hle]
    have e3 : (((c + s : Nat) : Int)) - (n : Nat) = ((c + s - n : Nat) : Int) := by omega
    have e4 : wrap64 ((c + s - n : Nat) : Int) = ((c + s - n : Nat) : Int) := by unfold wrap64; omega
    have e5 : ((n : Nat) : Int) ≤ ((c + s : Nat) : Int) := by omega
    generalize c + s - n = t at *
    generalize c + s = u at *
    clear hle h1 h2 h3
    go_enter Tryd.func40, Tryd.ntmps40
    go_wp2
    go_ret
    exact ⟨congrArg (fun z => Ending.returned (.int .i64 z)) e4, rfl⟩
  · rw [if_neg hle]
    have e5 : ¬ ((n : Nat) : Int) ≤ ((c + s : Nat) : Int) := by omega
    generalize c + s = u at *
    clear hle h1 h2 h3
    go_enter Tryd.func40, Tryd.ntmps40
    go_wp2
    go_ret
    exact ⟨rfl, rfl⟩
/-- Behind a store into the journal's own block. -/
theorem IsJ.set7 {K : Nat → Prop} {w : World} {p : Nat} {L : Loc} {S : St} {J J' : JS} (h : IsJ JHead K w p L S J) (i : Nat) (u : Value) (hh : JHead (w.setCell ⟨p, i, none⟩ u) p L.b J') : IsJ JHead K (w.setCell ⟨p, i, none⟩ u) p L S J' :=
  ⟨hh, h.2.1.beside (p := ⟨p, i, none⟩) (.inr rfl) u, h.2.2⟩
theorem reset7 (K : Nat → Prop) (w : World) (p : Nat) (L : Loc) (S : St) (J : JS) (h : IsJ JHead K w p L S J) (he : J.epoch ≤ 2147483648) :
    Calls Tryd.prog 11 #[.pointer (some ⟨p, 0, none⟩)] w fun x w' => x = .returned (.int .i64 ((resetR J).2 : Nat)) ∧ IsJ JHead K w' p L S (resetR J).1 ∧ Kept K w w' := by
  have H : Hid (IsJ JHead K w p L S J) := h
  obtain ⟨c0, c1, c2, c3, c4, c5, c6, c7, c8⟩ := h.1.cell
  have f1 := h.1.frozen 5
  have f2 := h.1.frozen 6
  have f3 := h.1.frozen 4
  have f4 := h.1.frozen 7
  clear h c0 c1 c2 c3
  by_cases hd : J.dead = true
  · have HR : Hid (resetR J = (J, 10)) := if_pos hd
    rw [hd] at c8
    rw [HR.out]
    clear hd
    go_enter Tryd.func11, Tryd.ntmps11
    go_wp2
    go_ret
    exact ⟨rfl, H.out, Kept.refl _ _⟩
  · have hd' : J.dead = false := by simpa using hd
    rw [hd'] at c8
    by_cases h2 : J.epoch = 2147483648
    · have HR : Hid (resetR J = (J, 2)) := by unfold Hid resetR; rw [if_neg hd, if_pos h2]
      rw [HR.out]
      rw [h2] at c5
      clear hd hd' h2
      go_enter Tryd.func11, Tryd.ntmps11
      go_wp2
      go_ret
      exact ⟨rfl, H.out, Kept.refl _ _⟩
    · have HR : Hid (resetR J = ({ J with epoch := J.epoch + 1, count := 0, used := 0, dirty := false }, 0)) := by unfold Hid resetR; rw [if_neg hd, if_neg h2]
      rw [HR.out]
      have h3 : ¬ ((J.epoch : Nat) : Int) = 2147483648 := by omega
      have h4 : ((J.epoch : Nat) : Int) + 1 = ((J.epoch + 1 : Nat) : Int) := by omega
      have h5 : wrap64 ((J.epoch + 1 : Nat) : Int) = ((J.epoch + 1 : Nat) : Int) := by unfold wrap64; omega
      have HN : Hid (IsJ JHead K ((((w.setCell ⟨p, 5, none⟩ (.int .i64 ((J.epoch + 1 : Nat) : Int))).setCell ⟨p, 6, none⟩ (.int .i64 0)).setCell ⟨p, 4, none⟩ (.int .i64 0)).setCell ⟨p, 7, none⟩ (.bool false)) p L S { J with epoch := J.epoch + 1, count := 0, used := 0, dirty := false } ∧ Kept K w ((((w.setCell ⟨p, 5, none⟩ (.int .i64 ((J.epoch + 1 : Nat) : Int))).setCell ⟨p, 6, none⟩ (.int .i64 0)).setCell ⟨p, 4, none⟩ (.int .i64 0)).setCell ⟨p, 7, none⟩ (.bool false))) := by
        have g1 := H.out.set7 (J' := { J with epoch := J.epoch + 1 }) 5 (.int .i64 ((J.epoch + 1 : Nat) : Int)) (H.out.1.set _ _ rfl)
        have g2 := g1.set7 (J' := { J with epoch := J.epoch + 1, count := 0 }) 6 (.int .i64 0) (g1.1.set _ _ rfl)
        have g3 := g2.set7 (J' := { J with epoch := J.epoch + 1, count := 0, used := 0 }) 4 (.int .i64 0) (g2.1.set _ _ rfl)
        have g4 := g3.set7 (J' := { J with epoch := J.epoch + 1, count := 0, used := 0, dirty := false }) 7 (.bool false) (g3.1.set _ _ rfl)
        exact ⟨g4, (((((Kept.refl K w).setCell (p := ⟨p, 5, none⟩) H.out.2.2 _).setCell (p := ⟨p, 6, none⟩) H.out.2.2 _).setCell (p := ⟨p, 4, none⟩) H.out.2.2 _).setCell (p := ⟨p, 7, none⟩) H.out.2.2 _)⟩
      generalize J.epoch + 1 = e1 at *
      generalize J.epoch = e0 at *
      clear hd hd' h2 he
      go_enter Tryd.func11, Tryd.ntmps11
      go_wp2
      go_ret
      exact ⟨rfl, HN.out.1, HN.out.2⟩
theorem IsJ.kept7 {K : Nat → Prop} {w : World} {p : Nat} {L : Loc} {S : St} {J : JS} (h : IsJ JHead K w p L S J) {w' : World} (hk : Kept K w w') (i : Nat) (u : Value) : Kept K w (w'.setCell ⟨p, i, none⟩ u) := hk.setCell (p := ⟨p, i, none⟩) h.2.2 u
theorem take7 (w : World) (p b : Nat) (J : JS) (s : Nat) (h : JHead w p b J) (h1 : J.place < J.n) (h2 : J.n ≤ 4096) (h3 : s ≤ J.n - J.used) (h4 : J.used ≤ J.n) :
    Calls Tryd.prog 41 #[.pointer (some ⟨p, 0, none⟩), .int .i64 (s : Nat)] w fun x w' => (∃ v, x = .returned v) ∧ w' = (w.setCell ⟨p, 3, none⟩ (.int .i64 (((J.place + s) % J.n : Nat) : Int))).setCell ⟨p, 4, none⟩ (.int .i64 ((J.used + s : Nat) : Int)) := by
  have HH : Hid (JHead w p b J) := h
  obtain ⟨-, -, -, c3, c4, -⟩ := h.cell
  have f1 := h.frozen 3
  have f2 := h.frozen 4
  have e1 : ((J.used : Nat) : Int) + (s : Nat) = ((J.used + s : Nat) : Int) := by omega
  have e2 : wrap64 ((J.used + s : Nat) : Int) = ((J.used + s : Nat) : Int) := by unfold wrap64; omega
  have HB := behind7 w p b J s h h1 h2 (by omega)
  generalize (J.place + s) % J.n = pl at *
  generalize J.used + s = us at *
  have HB' : Hid (Calls Tryd.prog 40 #[.pointer (some ⟨p, 0, none⟩), .int .i64 (s : Nat)] w fun x w' => x = .returned (.int .i64 (pl : Nat)) ∧ w' = w) := HB
  clear HB h h1 h2 h3 h4
  go_enter Tryd.func41, Tryd.ntmps41
  go_wp2_with fail
  refine HB'.out.mono ?_
  rintro x w1 ⟨rfl, rfl⟩
  go_wp2
  go_end0
  exact ⟨⟨_, rfl⟩, rfl⟩
theorem pass7 (K : Nat → Prop) (w : World) (p : Nat) (L : Loc) (S : St) (J : JS) (s : Nat) (h : IsJ JHead K w p L S J) (h1 : J.place < J.n) (h2 : J.n ≤ 4096) (h3 : s ≤ J.n - J.used) (h4 : J.used ≤ J.n) (h5 : J.count ≤ 100000) :
    Calls Tryd.prog 27 #[.pointer (some ⟨p, 0, none⟩), .int .i64 (s : Nat)] w fun x w' => (∃ v, x = .returned v) ∧ IsJ JHead K w' p L S (J.after s) ∧ Kept K w w' ∧ Only p w w' := by
  have HT := take7 w p L.b J s h.1 h1 h2 h3 h4
  have HN : Hid (IsJ JHead K (((w.setCell ⟨p, 3, none⟩ (.int .i64 (((J.place + s) % J.n : Nat) : Int))).setCell ⟨p, 4, none⟩ (.int .i64 ((J.used + s : Nat) : Int))).setCell ⟨p, 6, none⟩ (.int .i64 ((J.count + 1 : Nat) : Int))) p L S (J.after s) ∧ Kept K w (((w.setCell ⟨p, 3, none⟩ (.int .i64 (((J.place + s) % J.n : Nat) : Int))).setCell ⟨p, 4, none⟩ (.int .i64 ((J.used + s : Nat) : Int))).setCell ⟨p, 6, none⟩ (.int .i64 ((J.count + 1 : Nat) : Int))) ∧ Only p w (((w.setCell ⟨p, 3, none⟩ (.int .i64 (((J.place + s) % J.n : Nat) : Int))).setCell ⟨p, 4, none⟩ (.int .i64 ((J.used + s : Nat) : Int))).setCell ⟨p, 6, none⟩ (.int .i64 ((J.count + 1 : Nat) : Int)))) := by
    have g1 := h.set7 (J' := { J with place := (J.place + s) % J.n }) 3 (.int .i64 (((J.place + s) % J.n : Nat) : Int)) (h.1.set _ _ rfl)
    have g2 := g1.set7 (J' := { J with place := (J.place + s) % J.n, used := J.used + s }) 4 (.int .i64 ((J.used + s : Nat) : Int)) (g1.1.set _ _ rfl)
    have g3 := g2.set7 (J' := J.after s) 6 (.int .i64 ((J.count + 1 : Nat) : Int)) (g2.1.set _ _ rfl)
    exact ⟨g3, h.kept7 (h.kept7 (h.kept7 (Kept.refl K w) _ _) _ _) _ _, (((Only.refl p w).setCell _ _).setCell _ _).setCell _ _⟩
  obtain ⟨-, -, -, -, -, -, c6, -⟩ := h.1.cell
  have f6 := h.1.frozen 6
  have e1 : ((J.count : Nat) : Int) + 1 = ((J.count + 1 : Nat) : Int) := by omega
  have e2 : wrap64 ((J.count + 1 : Nat) : Int) = ((J.count + 1 : Nat) : Int) := by unfold wrap64; omega
  generalize (J.place + s) % J.n = pl at *
  generalize J.used + s = us at *
  generalize J.count + 1 = ct at *
  have HT' : Hid (Calls Tryd.prog 41 #[.pointer (some ⟨p, 0, none⟩), .int .i64 (s : Nat)] w fun x w' => (∃ v, x = .returned v) ∧ w' = (w.setCell ⟨p, 3, none⟩ (.int .i64 (pl : Nat))).setCell ⟨p, 4, none⟩ (.int .i64 (us : Nat))) := HT
  clear HT h h1 h2 h3 h4 h5
  go_enter Tryd.func27, Tryd.ntmps27
  go_wp2_with fail
  refine HT'.out.mono ?_
  rintro x w1 ⟨⟨v, rfl⟩, rfl⟩
  go_wp2
  go_end0
  exact ⟨⟨_, rfl⟩, HN.out⟩
end Go.Proofs.YthhdkadjlddmkaaDoor

/- The disk's 'Write' of any number of sectors with the power off. -/
namespace Go.Proofs.YthhdkadjlddmkaaDoor
open Go.RowKit
set_option linter.unusedVariables false

theorem spent_off {S : St} (h : S.left = 0) : S.spent = S := by
  unfold St.spent
  rw [h]
  cases S
  cases h
  rfl
set_option maxRecDepth 20000 in
set_option maxHeartbeats 1000000 in
theorem write_offN {K : Nat → Prop} {w : World} {L : Loc} {S : St} (h : IsDisk K w L S) (a m : Nat) (x : Option Addr) (cap : Nat) (ham : a + m ≤ S.n) (hl : S.left = 0) :
    Calls Tryd.prog 66 #[.pointer (some ⟨L.b, 0, none⟩), .int .i64 (a : Nat), .slice x (128 * m) cap] w fun e w' => e = .returned (.int .i64 10) ∧ IsDisk K w' L S ∧ Kept K w w' := by
  have H : Hid (IsDisk K w L S) := h
  have HK : Hid (Kept K w ((w.alloc (.cells #[.pointer (some ⟨L.b, 0, none⟩)] 24)).alloc (.cells #[.int .i64 (a : Nat)] 3))) := by
    refine ((Kept.refl K w).alloc h.kl _).alloc ?_ _
    intro k hk; have := h.kl k hk; simp; omega
  have hn := h.ok.n2
  obtain ⟨T, hT⟩ : ∃ T, T = 128 * m := ⟨_, rfl⟩
  rw [← hT]
  have t1 : (T : Int).tmod 128 = 0 := by rw [Int.tmod_eq_emod_of_nonneg (by omega)]; omega
  have t2 : (T : Int).tdiv 128 = (m : Nat) := by rw [Int.tdiv_eq_ediv_of_nonneg (by omega)]; omega
  have t3 : wrap64 (m : Nat) = (m : Nat) := by unfold wrap64; omega
  have t4 : IntKind.i64.wrap (m : Nat) = (m : Nat) := by rw [IntKind.wrap_i64]; omega
  have HL : Hid (S.left = 0) := hl
  have HA : Hid (a + m ≤ S.n) := ham
  clear h hT hn hl ham
  go_enter Tryd.func66, Tryd.ntmps66
  go_wp2_with fail
  refine (has_v ((H.out.alloc _).alloc _) _ _).mono ?_
  rintro e w1 ⟨rfl, rfl⟩
  rw [show hasN S.n (a : Nat) (m : Nat) = true from hasN_ok HA.out]
  clear t1 t2 t3 t4
  go_wp2_with fail
  refine (spend_v ((H.out.alloc _).alloc _)).mono ?_
  rintro e w2 ⟨rfl, h2, k2⟩
  rw [decide_eq_false (fun h => h HL.out)]
  rw [spent_off HL.out] at h2
  have H2 : Hid (IsDisk K w2 L S) := h2
  have K2 : Hid (Kept K w w2) := HK.out.trans k2
  clear h2 k2
  go_wp2
  go_ret
  exact ⟨rfl, H2.out, K2.out⟩
end Go.Proofs.YthhdkadjlddmkaaDoor

/- What the ring's writing does to the disk, in plain numbers; one call of the disk's Write on its way. -/
namespace Go.Proofs.YthhdkadjlddmkaaDoor
open Go.RowKit
set_option linter.unusedVariables false

theorem secAt_sub {b : List Nat} (hb : ∀ z ∈ b, z < 256) (lo m i : Nat) (hi : i < m) (hl : 128 * (lo + m) ≤ b.length) : secAt ((b.drop (128 * lo)).take (128 * m)) i = secAt b (lo + i) := by
  apply Sec.ext
  rw [secAt_l (by rw [List.length_take, List.length_drop]; omega) (fun z hz => hb z (List.mem_of_mem_drop (List.mem_of_mem_take hz))), secAt_l (by omega) hb]
  rw [List.drop_take, List.take_take, List.drop_drop]
  rw [show min 128 (128 * m - 128 * i) = 128 by omega, show 128 * lo + 128 * i = 128 * (lo + i) by omega]
theorem wrote_list (J : JS) {b : List Nat} (hb : ∀ z ∈ b, z < 256) (lo m : Nat) (hm : (J.place + lo) % J.n + m ≤ J.n) (hl : 128 * (lo + m) ≤ b.length) :
    ∀ k, k ≤ m → (valW (xsTo ((b.drop (128 * lo)).take (128 * m)) m k)).map (fun p => (J.fr + (J.place + lo) % J.n + p.1, p.2)) = wrL J b lo k
  | 0, _ => rfl
  | k + 1, h => by
    rw [xsTo_succ _ (by omega), valW_snoc, List.map_append, wrote_list J hb lo m hm hl k (by omega)]
    unfold wrL
    rw [List.range_succ, List.map_append]
    congr 1
    show [(J.fr + (J.place + lo) % J.n + k, secAt ((b.drop (128 * lo)).take (128 * m)) k)] = [(J.fr + (J.place + (lo + k)) % J.n, secAt b (lo + k))]
    have e : (J.place + (lo + k)) % J.n = (J.place + lo) % J.n + k := by
      rw [show J.place + (lo + k) = (J.place + lo) + k by omega, ← Nat.mod_add_mod (J.place + lo), Nat.mod_eq_of_lt (by omega)]
    rw [secAt_sub hb lo m k (by omega) hl, e, Nat.add_assoc]
theorem wrote_put (S : St) (J : JS) {b : List Nat} (hb : ∀ z ∈ b, z < 256) (lo m : Nat) (hm : (J.place + lo) % J.n + m ≤ J.n) (hl : 128 * (lo + m) ≤ b.length) :
    wroteSt S (J.fr + (J.place + lo) % J.n) (valW (xsTo ((b.drop (128 * lo)).take (128 * m)) m m)) = putW S J b lo m := by
  unfold wroteSt putW
  rw [wrote_list J hb lo m hm hl m (Nat.le_refl _)]
  have : (valW (xsTo ((b.drop (128 * lo)).take (128 * m)) m m)).length = m := by unfold valW; rw [List.length_map, xsTo_length _ _ _ (Nat.le_refl _)]
  rw [this]
def errI (ok : Bool) : Int := if ok = true then 0 else 10
def writeD (S : St) (J : JS) (b : List Nat) (lo m : Nat) : St × Bool := tick S fun s => (putW s J b lo m, true)
def andT (r : St × Bool) (k : St → St × Bool) : St × Bool := if r.2 = true then k r.1 else r
def writeR (S : St) (J : JS) (b : List Nat) (lo m : Nat) : St × Bool :=
  if m ≤ J.n - (J.place + lo) % J.n then writeD S J b lo m else andT (writeD S J b lo (J.n - (J.place + lo) % J.n)) fun s => writeD s J b (lo + (J.n - (J.place + lo) % J.n)) (m - (J.n - (J.place + lo) % J.n))
def flushD (S : St) : St × Bool := tick S fun s => (s.flushed, true)
def flushR (S : St) (J : JS) (b : List Nat) (lo m : Nat) : St × Bool := andT (writeR S J b lo m) flushD
def layR (S : St) (J : JS) (b : List Nat) (P : Nat) : St × Bool := andT (flushR S J b 0 P) fun s => flushR s J b P 1
theorem andT_tick (S : St) (k l : St → St × Bool) : andT (tick S k) l = tick S fun s => andT (k s) l := by
  unfold tick
  split
  · exact if_neg Bool.false_ne_true
  · rfl
theorem andT_true (s : St) (l : St → St × Bool) : andT (s, true) l = l s := if_pos rfl
/-- The ring's calls of the disk are those that the chapter says. -/
theorem lay_append (S : St) (J : JS) (b : List Nat) (P : Nat) (hp : J.place < J.n) : layR S J b P = appendD S J b P := by
  have h1 : ∀ s, flushR s J b P 1 = tick s fun s => tick (putW s J b P 1) fun s => (s.flushed, true) := fun s => by
    unfold flushR writeR
    rw [if_pos (by have := Nat.mod_lt (J.place + P) (show 0 < J.n by omega); omega)]
    unfold writeD
    rw [andT_tick]
    rfl
  have h2 : (J.place + 0) % J.n = J.place := by rw [Nat.add_zero]; exact Nat.mod_eq_of_lt hp
  have h3 : ∀ s, andT (flushD s) (fun s => flushR s J b P 1) = footR J b P s := fun s => by
    unfold flushD
    rw [andT_tick]
    show tick s (fun s => andT (s.flushed, true) _) = _
    unfold footR
    congr 1
    funext s
    rw [andT_true, h1]
  have e0 : writeR S J b 0 P = if P ≤ J.n - J.place then writeD S J b 0 P else andT (writeD S J b 0 (J.n - J.place)) fun s => writeD s J b (0 + (J.n - J.place)) (P - (J.n - J.place)) := by
    unfold writeR; rw [h2]
  show andT (andT (writeR S J b 0 P) flushD) (fun s => flushR s J b P 1) = _
  rw [e0]
  unfold appendD
  split
  · unfold writeD
    rw [andT_tick, andT_tick]
    congr 1
    funext s
    rw [andT_true, h3]
  · unfold writeD
    rw [andT_tick, andT_tick, andT_tick]
    congr 1
    funext s
    rw [andT_true, andT_tick, andT_tick]
    rw [Nat.zero_add]
    congr 1
    funext s
    rw [andT_true, h3]
theorem putW_left (S : St) (J : JS) (b : List Nat) (lo m : Nat) : (putW S J b lo m).left = S.left := rfl

/-- One call of Write, whatever the power. -/
theorem dwrite7 {K : Nat → Prop} {w : World} {L : Loc} {S : St} (h : IsDisk K w L S) (J : JS) {b : List Nat} (hb : ∀ z ∈ b, z < 256) (lo m f : Nat) (hf : f = J.fr + (J.place + lo) % J.n) (h1 : 1 ≤ m) (hm : (J.place + lo) % J.n + m ≤ J.n) (hfit : J.fr + J.n ≤ S.n) (hl : 128 * (lo + m) ≤ b.length)
    (x off T cap : Nat) (hT : T = 128 * m) (hv : Octs w (.slice (some ⟨x, off, none⟩) T cap) ((b.drop (128 * lo)).take (128 * m))) (hK : K x) (hm1 : S.waits.length + m ≤ 1000000000) (hm2 : S.written + m ≤ 1000000000) :
    Calls Tryd.prog 66 #[.pointer (some ⟨L.b, 0, none⟩), .int .i64 (f : Nat), .slice (some ⟨x, off, none⟩) T cap] w fun e w' => ∃ wv, e = .returned (.int .i64 (errI (writeD S J b lo m).2)) ∧ IsDisk K w' { L with wv := wv } (writeD S J b lo m).1 ∧ Kept K w w' := by
  subst hf hT
  by_cases h0 : S.left = 0
  · have e : writeD S J b lo m = (S, false) := if_pos h0
    rw [e]
    refine (write_offN h (J.fr + (J.place + lo) % J.n) m (some ⟨x, off, none⟩) cap (by omega) h0).mono ?_
    rintro e w' ⟨rfl, hd, hk⟩
    exact ⟨L.wv, rfl, hd, hk⟩
  · have e : writeD S J b lo m = (putW S.spent J b lo m, true) := if_neg h0
    rw [e]
    have hlen : ((b.drop (128 * lo)).take (128 * m)).length = 128 * m := by rw [List.length_take, List.length_drop]; omega
    refine (write_ok h (J.fr + (J.place + lo) % J.n) m _ _ hv (by rintro y n c e; cases e; exact hK) hlen h1 (by omega) h0 hm1 hm2).mono ?_
    rintro e w' ⟨rfl, ⟨wv, hd⟩, hk⟩
    rw [wrote_put S.spent J hb lo m hm hl] at hd
    exact ⟨wv, rfl, hd, hk⟩
theorem dflush7 {K : Nat → Prop} {w : World} {L : Loc} {S : St} (h : IsDisk K w L S) :
    Calls Tryd.prog 56 #[.pointer (some ⟨L.b, 0, none⟩)] w fun e w' => ∃ wv, e = .returned (.int .i64 (errI (flushD S).2)) ∧ IsDisk K w' { L with wv := wv } (flushD S).1 ∧ Kept K w w' := by
  by_cases h0 : S.left = 0
  · have e : flushD S = (S, false) := if_pos h0
    rw [e]
    refine (flush_off h h0).mono ?_
    rintro e w' ⟨rfl, hd, hk⟩
    rw [spent_off h0] at hd
    exact ⟨L.wv, rfl, hd, hk⟩
  · have e : flushD S = (S.spent.flushed, true) := if_neg h0
    rw [e]
    refine (flush_ok h h0).mono ?_
    rintro e w' ⟨rfl, hd, hk⟩
    exact ⟨_, rfl, hd, hk⟩
end Go.Proofs.YthhdkadjlddmkaaDoor

/- Contract of the ring's 'write'. -/
namespace Go.Proofs.YthhdkadjlddmkaaDoor
open Go.RowKit
set_option linter.unusedVariables false

theorem errI_cases (ok : Bool) : (ok = true ∧ errI ok = 0) ∨ (ok = false ∧ errI ok = 10) := by cases ok <;> simp [errI]
theorem sub_take (b : List Nat) (lo m k : Nat) (h : k ≤ m) : ((b.drop (128 * lo)).take (128 * m)).take (128 * k) = (b.drop (128 * lo)).take (128 * k) := by
  rw [List.take_take, Nat.min_eq_left (by omega)]
theorem sub_drop (b : List Nat) (lo m k : Nat) (h : k ≤ m) : ((b.drop (128 * lo)).take (128 * m)).drop (128 * k) = (b.drop (128 * (lo + k))).take (128 * (m - k)) := by
  rw [List.drop_take, List.drop_drop, show 128 * lo + 128 * k = 128 * (lo + k) by omega, show 128 * m - 128 * k = 128 * (m - k) by omega]
theorem place_round {c lo n : Nat} (hn : 0 < n) : (c + (lo + (n - (c + lo) % n))) % n = 0 := by
  have h := Nat.mod_lt (c + lo) hn
  rw [← Nat.add_assoc, ← Nat.mod_add_mod, show (c + lo) % n + (n - (c + lo) % n) = n by omega, Nat.mod_self]
theorem writeD_sizes (S : St) (J : JS) (b : List Nat) (lo m : Nat) : (writeD S J b lo m).1.n = S.n ∧ (writeD S J b lo m).1.waits.length ≤ S.waits.length + m ∧ (writeD S J b lo m).1.written ≤ S.written + m := by
  unfold writeD tick
  split
  · exact ⟨rfl, Nat.le_add_right _ _, Nat.le_add_right _ _⟩
  · refine ⟨rfl, ?_, Nat.le_refl _⟩
    show (S.waits ++ wrL J b lo m).length ≤ _
    rw [List.length_append]
    unfold wrL
    simp
theorem Octs.ofKept {w w' : World} {K : Nat → Prop} {x off l cap : Nat} {zs : List Nat} (h : Octs w (.slice (some ⟨x, off, none⟩) l cap) zs) (hk : Kept K w w') (hx : K x) : Octs w' (.slice (some ⟨x, off, none⟩) l cap) zs := by
  obtain ⟨h1, h2, a, c, h3, h4, h5, h6⟩ := h
  refine ⟨h1, h2, a, c, h3, h4, h5, ?_⟩
  simp only [Value.slice.injEq] at h3
  obtain ⟨rfl, -, -⟩ := h3
  rcases h6 with ⟨e, -⟩ | ⟨y, e, h6⟩
  · cases e
  · refine .inr ⟨y, e, ?_⟩
    rcases h6 with h6 | ⟨bb, o, e2, h7, h8⟩
    · exact .inl h6
    · right
      cases e
      cases e2
      exact ⟨_, _, rfl, Nat.lt_of_lt_of_le h7 hk.size, fun j hj => (hk.cell (p := ⟨x, off + j, none⟩) hx).trans (h8 j hj)⟩
theorem wr_small {k : Nat} (h : k ≤ 100000000) : wrap64 (k : Nat) = (k : Nat) := by unfold wrap64; omega
theorem wr_kind {k : Nat} (h : k ≤ 100000000) : IntKind.i64.wrap (k : Nat) = (k : Nat) := by rw [IntKind.wrap_i64]; omega
set_option maxRecDepth 20000 in
set_option maxHeartbeats 1000000 in
theorem write7 (K : Nat → Prop) (w : World) (p : Nat) (L : Loc) (S : St) (J : JS) (b : List Nat) (lo m a x off T cap : Nat) (h : IsJ JHead K w p L S J) (hn1 : 4 ≤ J.n) (hn2 : J.n ≤ 4096) (hfit : J.fr + J.n ≤ S.n) (ha : a = (J.place + lo) % J.n) (hT : T = 128 * m)
    (hb : ∀ z ∈ b, z < 256) (h1 : 1 ≤ m) (hmn : m ≤ J.n) (hl : 128 * (lo + m) ≤ b.length) (hv : Octs w (.slice (some ⟨x, off, none⟩) T cap) ((b.drop (128 * lo)).take (128 * m))) (hxK : K x) (hm1 : S.waits.length + m ≤ 1000000000) (hm2 : S.written + m ≤ 1000000000) :
    Calls Tryd.prog 55 #[.pointer (some ⟨p, 0, none⟩), .int .i64 (a : Nat), .slice (some ⟨x, off, none⟩) T cap] w fun e w' => ∃ wv, e = .returned (.int .i64 (errI (writeR S J b lo m).2)) ∧ IsJ JHead K w' p { L with wv := wv } (writeR S J b lo m).1 J ∧ Kept K w w' := by
  have hcap := hv.capLe
  have H : Hid (IsJ JHead K w p L S J) := h
  have hSn := h.2.1.ok.n2
  have ham : a < J.n := by rw [ha]; exact Nat.mod_lt _ (by omega)
  obtain ⟨f, hf⟩ : ∃ f, f = J.fr + a := ⟨_, rfl⟩
  obtain ⟨c0, c1, c2, -⟩ := h.1.cell
  have HKC : Hid (∀ w', Kept (fun k => K k ∨ k = p) w w' → w'.cell? ⟨p, 0, none⟩ = some (.pointer (some ⟨L.b, 0, none⟩)) ∧ w'.cell? ⟨p, 1, none⟩ = some (.int .i64 (J.fr : Nat))) := fun w' hk =>
    ⟨(hk.cell (p := ⟨p, 0, none⟩) (.inr rfl)).trans c0, (hk.cell (p := ⟨p, 1, none⟩) (.inr rfl)).trans c1⟩
  have HKH : Hid (∀ w' wv S', Kept (fun k => K k ∨ k = p) w w' → IsDisk (fun k => K k ∨ k = p) w' { L with wv := wv } S' → IsJ JHead K w' p { L with wv := wv } S' J ∧ Kept K w w') := fun w' wv S' hk hd =>
    ⟨⟨h.1.same (hk.block p (.inr rfl)), hd, h.2.2⟩, hk.mono fun k hk => .inl hk⟩
  obtain ⟨d, hd⟩ : ∃ d, d = J.n - a := ⟨_, rfl⟩
  obtain ⟨D, hD⟩ : ∃ D, D = 128 * d := ⟨_, rfl⟩
  have e1 : ((J.n : Nat) : Int) - (a : Nat) = (d : Nat) := by omega
  have e3 : ((d : Nat) : Int) * 128 = (D : Nat) := by omega
  have e5 : ((J.fr : Nat) : Int) + (a : Nat) = (f : Nat) := by omega
  have hb1 : d ≤ 100000000 := by omega
  have hb2 : D ≤ 100000000 := by omega
  have hb3 : f ≤ 100000000 := by omega
  have WR : Hid (wrap64 (d : Nat) = (d : Nat) ∧ wrap64 (D : Nat) = (D : Nat) ∧ wrap64 (f : Nat) = (f : Nat) ∧ IntKind.i64.wrap (f : Nat) = (f : Nat)) := ⟨wr_small hb1, wr_small hb2, wr_small hb3, wr_kind hb3⟩
  have HPM : Hid (Octs w (.slice (some ⟨x, off, none⟩) T cap) ((b.drop (128 * lo)).take (128 * m))) := hv
  by_cases hmd : m ≤ d
  · have hw1 : writeR S J b lo m = writeD S J b lo m := if_pos (by rw [← ha, ← hd]; exact hmd)
    rw [hw1]
    have HW : Hid (Calls Tryd.prog 66 #[.pointer (some ⟨L.b, 0, none⟩), .int .i64 (f : Nat), .slice (some ⟨x, off, none⟩) T cap] w.drew fun e w' => ∃ wv, e = .returned (.int .i64 (errI (writeD S J b lo m).2)) ∧ IsDisk (fun k => K k ∨ k = p) w' { L with wv := wv } (writeD S J b lo m).1 ∧ Kept (fun k => K k ∨ k = p) w.drew w') :=
      dwrite7 h.2.1.drew J hb lo m f (by rw [hf, ha]) h1 (by omega) hfit hl x off T cap hT hv.drew (.inl hxK) hm1 hm2
    have q1 : ¬ ((D : Nat) : Int) < (T : Nat) := by omega
    have q2 : (if ((D : Nat) : Int) < (T : Nat) then ((D : Nat) : Int) else (T : Nat)) = (T : Nat) := if_neg q1
    have q3 : (if ((T : Nat) : Int) < (D : Nat) then ((T : Nat) : Int) else (D : Nat)) = (T : Nat) := by split <;> omega
    have q4 : ((T : Nat) : Int) ≤ (cap : Nat) := by omega
    have q5 : (0 : Int) ≤ (T : Nat) := by omega
    generalize hR : writeD S J b lo m = R at *
    obtain ⟨er, her⟩ : ∃ er, er = errI R.2 := ⟨_, rfl⟩
    rw [← her] at HW ⊢
    have HER : Hid (er = errI R.2) := her
    rcases Nat.lt_or_eq_of_le (show T ≤ D by omega) with q0 | q0
    case' inr => subst q0
    all_goals
      clear hR h hv hb h1 hmn hl hxK hm1 hm2 ha hT hw1 hfit hmd hcap ham hSn hf hd hD hn1 hn2 c0 c1 q1 q2 q3 HPM hb1 hb2 hb3
      go_enter Tryd.func55, Tryd.ntmps55
      obtain ⟨e2, e4, e7, e6⟩ := WR.out
      clear her
      go_wp2_with fail
      go_region_held3 (fun w' => w'.cell? ⟨p, 0, none⟩ = some (.pointer (some ⟨L.b, 0, none⟩)) ∧ w'.cell? ⟨p, 1, none⟩ = some (.int .i64 (J.fr : Nat))) (first | exact HKC.out _ (Kept.refl _ _).drew | exact HKC.out _ (Kept.undrew hk6)) (first
        | (go_at_call 66; refine HW.out.mono ?_; rintro e w6 ⟨wv6, rfl, hd6, hk6⟩))
      have HJ6 : Hid (IsJ JHead K w6 p { L with wv := wv6 } R.1 J ∧ Kept K w w6) := HKH.out w6 wv6 R.1 (Kept.undrew hk6) hd6
      clear hk6 hd6 HW e2 e4 e6 e7
      rcases errI_cases R.2 with ⟨hr, he⟩ | ⟨hr, he⟩
      · obtain rfl : er = 0 := HER.out.trans he
        clear hr he HER
        go_wp2
        go_ret
        exact ⟨wv6, rfl, HJ6.out⟩
      · obtain rfl : er = 10 := HER.out.trans he
        clear hr he HER
        go_wp2
        go_ret
        exact ⟨wv6, rfl, HJ6.out⟩
  · have hw1 : writeR S J b lo m = andT (writeD S J b lo d) fun s => writeD s J b (lo + d) (m - d) := by
      unfold writeR
      rw [← ha, ← hd]
      exact if_neg hmd
    rw [hw1]
    have hzr : (J.place + (lo + d)) % J.n = 0 := by rw [hd, ha]; exact place_round (by omega)
    have HW : Hid (Calls Tryd.prog 66 #[.pointer (some ⟨L.b, 0, none⟩), .int .i64 (f : Nat), .slice (some ⟨x, off, none⟩) D cap] w.drew fun e w' => ∃ wv, e = .returned (.int .i64 (errI (writeD S J b lo d).2)) ∧ IsDisk (fun k => K k ∨ k = p) w' { L with wv := wv } (writeD S J b lo d).1 ∧ Kept (fun k => K k ∨ k = p) w.drew w') := by
      have ho := (hv.drew.front (n := D) (by omega))
      rw [hD, sub_take b lo m d (by omega)] at ho
      rw [hD]
      exact dwrite7 h.2.1.drew J hb lo d f (by rw [hf, ha]) (by omega) (by omega) hfit (by omega) x off _ cap rfl ho (.inl hxK) (by omega) (by omega)
    have HW2 : Hid (∀ w6 wv6, IsDisk (fun k => K k ∨ k = p) w6 { L with wv := wv6 } (writeD S J b lo d).1 → Kept (fun k => K k ∨ k = p) w w6 → Hid (Calls Tryd.prog 66 #[.pointer (some ⟨L.b, 0, none⟩), .int .i64 (J.fr : Nat), .slice (some ⟨x, off + D, none⟩) (T - D : Nat) (cap - D : Nat)] w6.drew fun e w' => ∃ wv, e = .returned (.int .i64 (errI (writeD (writeD S J b lo d).1 J b (lo + d) (m - d)).2)) ∧ IsDisk (fun k => K k ∨ k = p) w' { L with wv := wv } (writeD (writeD S J b lo d).1 J b (lo + d) (m - d)).1 ∧ Kept (fun k => K k ∨ k = p) w6.drew w')) := by
      intro w6 wv6 hd6 hk6
      have ho := (hv.ofKept hk6 (.inl hxK)).drew.back (n := D) (x := off + D) (by omega) (.inl rfl)
      rw [hD, sub_drop b lo m d (by omega)] at ho
      obtain ⟨s1, s2, s3⟩ := writeD_sizes S J b lo d
      rw [hD]
      exact dwrite7 (L := { L with wv := wv6 }) hd6.drew J hb (lo + d) (m - d) J.fr (by rw [hzr, Nat.add_zero]) (by omega) (by rw [hzr]; omega) (by rw [s1]; exact hfit) (by omega) x _ _ _ (by omega) ho (.inl hxK) (by omega) (by omega)
    have q1 : ((D : Nat) : Int) < (T : Nat) := by omega
    have q2 : (if ((D : Nat) : Int) < (T : Nat) then ((D : Nat) : Int) else (T : Nat)) = (D : Nat) := if_pos q1
    have q3 : (if ((T : Nat) : Int) < (D : Nat) then ((T : Nat) : Int) else (D : Nat)) = (D : Nat) := by split <;> omega
    have q4 : ((D : Nat) : Int) ≤ (cap : Nat) := by omega
    have q5 : (0 : Int) ≤ (D : Nat) := by omega
    have q6 : ¬ ((D : Nat) : Int) = (T : Nat) := by omega
    have q0 : (T < D) = False := eq_false (by omega)
    have q9 : (cap = D) = False := eq_false (by omega)
    have q7 : ((T : Nat) : Int) ≤ (cap : Nat) := by omega
    have q8 : ((D : Nat) : Int) ≤ (T : Nat) := by omega
    generalize hR : writeD S J b lo d = R at *
    generalize hR2 : writeD R.1 J b (lo + d) (m - d) = R2 at *
    have HA1 : Hid (R.2 = true → andT R (fun s => writeD s J b (lo + d) (m - d)) = R2) := fun e => by unfold andT; rw [if_pos e]; exact hR2
    have HA2 : Hid (R.2 = false → andT R (fun s => writeD s J b (lo + d) (m - d)) = R) := fun e => by unfold andT; rw [if_neg (by rw [e]; exact Bool.false_ne_true)]
    generalize andT R (fun s => writeD s J b (lo + d) (m - d)) = R3 at *
    obtain ⟨er, her⟩ : ∃ er, er = errI R.2 := ⟨_, rfl⟩
    rw [← her] at HW
    have HER : Hid (er = errI R.2) := her
    clear hR hR2 her h hv hb h1 hmn hl hxK hm1 hm2 ha hT hw1 hfit hmd hcap ham hSn hf hd hD hn1 hn2 c0 c1 HPM hb1 hb2 hb3 hzr
    go_enter Tryd.func55, Tryd.ntmps55
    obtain ⟨e2, e4, e7, e6⟩ := WR.out
    go_wp2_with fail
    go_region_held3 (fun w' => w'.cell? ⟨p, 0, none⟩ = some (.pointer (some ⟨L.b, 0, none⟩)) ∧ w'.cell? ⟨p, 1, none⟩ = some (.int .i64 (J.fr : Nat))) (first | exact HKC.out _ (Kept.refl _ _).drew | exact HKC.out _ (Kept.undrew hk6)) (first
      | (go_at_call 66; refine HW.out.mono ?_; rintro e w6 ⟨wv6, rfl, hd6, hk6⟩))
    have HJ6 : Hid (IsJ JHead K w6 p { L with wv := wv6 } R.1 J ∧ Kept K w w6) := HKH.out w6 wv6 R.1 (Kept.undrew hk6) hd6
    have HK6 : Hid (Kept (fun k => K k ∨ k = p) w w6) := Kept.undrew hk6
    have HW6 := HW2.out w6 wv6 hd6 (Kept.undrew hk6)
    clear hk6 hd6 HW HW2 e2 e4 e6 e7
    rcases errI_cases R.2 with ⟨hr, he⟩ | ⟨hr, he⟩
    · obtain rfl : er = 0 := HER.out.trans he
      obtain rfl : R3 = R2 := HA1.out hr
      clear hr he HER HA1 HA2 q2 q3
      obtain ⟨er2, her2⟩ : ∃ er2, er2 = errI R3.2 := ⟨_, rfl⟩
      rw [← her2] at HW6
      have HER2 : Hid (er2 = errI R3.2) := her2
      clear her2
      go_wp2_with fail
      go_region_held3 (fun w' => w'.cell? ⟨p, 0, none⟩ = some (.pointer (some ⟨L.b, 0, none⟩)) ∧ w'.cell? ⟨p, 1, none⟩ = some (.int .i64 (J.fr : Nat))) (first | exact HKC.out _ HK6.out.drew | exact HKC.out _ (HK6.out.trans (Kept.undrew hk7))) (first
        | (go_at_call 66; refine HW6.out.mono ?_; rintro e w7 ⟨wv7, rfl, hd7, hk7⟩))
      have HJ7 : Hid (IsJ JHead K w7 p { L with wv := wv7 } R3.1 J ∧ Kept K w w7) := HKH.out w7 wv7 R3.1 (HK6.out.trans (Kept.undrew hk7)) hd7
      clear hk7 hd7 HW6
      go_wp2
      go_ret
      exact ⟨wv7, congrArg (fun z => Ending.returned (.int .i64 z)) HER2.out, HJ7.out⟩
    · obtain rfl : er = 10 := HER.out.trans he
      have HE9 : Hid ((10 : Int) = errI R.2) := he.symm
      obtain rfl : R3 = R := HA2.out hr
      clear hr he HER HA1 HA2 HW6
      go_wp2
      go_ret
      exact ⟨wv6, congrArg (fun z => Ending.returned (.int .i64 z)) HE9.out, HJ6.out⟩
end Go.Proofs.YthhdkadjlddmkaaDoor

/- Contracts of the ring's 'flush' and 'lay'. -/
namespace Go.Proofs.YthhdkadjlddmkaaDoor
open Go.RowKit
set_option linter.unusedVariables false

theorem jflush7 {K : Nat → Prop} {w : World} {p : Nat} {L : Loc} {S : St} {J : JS} (h : IsJ JHead K w p L S J) :
    Calls Tryd.prog 56 #[.pointer (some ⟨L.b, 0, none⟩)] w fun e w' => ∃ wv, e = .returned (.int .i64 (errI (flushD S).2)) ∧ IsJ JHead K w' p { L with wv := wv } (flushD S).1 J ∧ Kept K w w' :=
  (dflush7 h.2.1).mono fun e w' ⟨wv, h1, h2, h3⟩ => ⟨wv, h1, ⟨h.1.same (h3.block p (.inr rfl)), h2, h.2.2⟩, h3.mono fun k hk => .inl hk⟩
theorem IsJ.drewH {K : Nat → Prop} {w : World} {p : Nat} {L : Loc} {S : St} {J : JS} (h : IsJ JHead K w p L S J) : IsJ JHead K w.drew p L S J := ⟨h.1.same rfl, h.2.1.drew, h.2.2⟩
theorem ret_errI {a : Int} {b : Bool} (h : a = errI b) : (Ending.returned (.int .i64 a)) = Ending.returned (.int .i64 (errI b)) := by rw [h]

set_option maxRecDepth 20000 in
set_option maxHeartbeats 1000000 in
theorem flush7 (K : Nat → Prop) (w : World) (p : Nat) (L : Loc) (S : St) (J : JS) (b : List Nat) (lo m a x off T cap : Nat) (h : IsJ JHead K w p L S J) (hn1 : 4 ≤ J.n) (hn2 : J.n ≤ 4096) (hfit : J.fr + J.n ≤ S.n) (ha : a = (J.place + lo) % J.n) (hT : T = 128 * m)
    (hb : ∀ z ∈ b, z < 256) (h1 : 1 ≤ m) (hmn : m ≤ J.n) (hl : 128 * (lo + m) ≤ b.length) (hv : Octs w (.slice (some ⟨x, off, none⟩) T cap) ((b.drop (128 * lo)).take (128 * m))) (hxK : K x) (hm1 : S.waits.length + m ≤ 1000000000) (hm2 : S.written + m ≤ 1000000000) :
    Calls Tryd.prog 39 #[.pointer (some ⟨p, 0, none⟩), .int .i64 (a : Nat), .slice (some ⟨x, off, none⟩) T cap] w fun e w' => ∃ wv, e = .returned (.int .i64 (errI (flushR S J b lo m).2)) ∧ IsJ JHead K w' p { L with wv := wv } (flushR S J b lo m).1 J ∧ Kept K w w' := by
  have HW := write7 K w p L S J b lo m a x off T cap h hn1 hn2 hfit ha hT hb h1 hmn hl hv hxK hm1 hm2
  have HA1 : (writeR S J b lo m).2 = true → flushR S J b lo m = flushD (writeR S J b lo m).1 := fun e => by unfold flushR andT; rw [if_pos e]
  have HA2 : (writeR S J b lo m).2 = false → flushR S J b lo m = writeR S J b lo m := fun e => by unfold flushR andT; rw [if_neg (by rw [e]; exact Bool.false_ne_true)]
  generalize flushR S J b lo m = R3 at *
  generalize writeR S J b lo m = R at *
  obtain ⟨er, her⟩ : ∃ er, er = errI R.2 := ⟨_, rfl⟩
  rw [← her] at HW
  have HER : Hid (er = errI R.2) := her
  have HW1 : Hid (Calls Tryd.prog 55 #[.pointer (some ⟨p, 0, none⟩), .int .i64 (a : Nat), .slice (some ⟨x, off, none⟩) T cap] w fun e w' => ∃ wv, e = .returned (.int .i64 er) ∧ IsJ JHead K w' p { L with wv := wv } R.1 J ∧ Kept K w w') := HW
  have HB1 : Hid (R.2 = true → R3 = flushD R.1) := HA1
  have HB2 : Hid (R.2 = false → R3 = R) := HA2
  clear her HW HA1 HA2 h hn1 hn2 hfit ha hT hb h1 hmn hl hv hxK hm1 hm2
  go_enter Tryd.func39, Tryd.ntmps39
  go_wp2_with fail
  refine HW1.out.mono ?_
  rintro e w6 ⟨wv6, rfl, hj6, hk6⟩
  have HJ6 : Hid (IsJ JHead K w6 p { L with wv := wv6 } R.1 J) := hj6
  have HK6 : Hid (Kept K w w6) := hk6
  obtain ⟨c0, -⟩ := hj6.1.cell
  clear hj6 hk6 HW1
  rcases errI_cases R.2 with ⟨hr, he⟩ | ⟨hr, he⟩
  · obtain rfl : er = 0 := HER.out.trans he
    have HR3 : Hid (R3 = flushD R.1) := HB1.out hr
    clear hr he HER HB1 HB2
    go_wp2_with fail
    refine (jflush7 HJ6.out).mono ?_
    rintro e w7 ⟨wv7, rfl, hj7, hk7⟩
    have HJ7 : Hid (IsJ JHead K w7 p { L with wv := wv7 } (flushD R.1).1 J ∧ Kept K w w7) := ⟨hj7, HK6.out.trans hk7⟩
    clear hj7 hk7 c0
    generalize hF : flushD R.1 = F at *
    obtain ⟨e7, he7⟩ : ∃ e7, e7 = errI F.2 := ⟨_, rfl⟩
    rw [← he7]
    have HE7 : Hid (e7 = errI F.2) := he7
    clear he7 hF
    go_wp2
    go_ret
    rw [HR3.out]
    exact ⟨wv7, ret_errI HE7.out, HJ7.out⟩
  · obtain rfl : er = 10 := HER.out.trans he
    have HR3 : Hid (R3 = R) := HB2.out hr
    have HE9 : Hid ((10 : Int) = errI R.2) := he.symm
    clear hr he HER HB1 HB2 c0
    go_wp2
    go_ret
    rw [HR3.out]
    exact ⟨wv6, ret_errI HE9.out, HJ6.out, HK6.out⟩
theorem andT_sizes {r : St × Bool} {k : St → St × Bool} {P : St → Prop} (h1 : P r.1) (h2 : ∀ s, P s → P (k s).1) : P (andT r k).1 := by
  unfold andT; split
  · exact h2 _ h1
  · exact h1
theorem flushR_sizes (S : St) (J : JS) (b : List Nat) (lo m : Nat) : (flushR S J b lo m).1.n = S.n ∧ (flushR S J b lo m).1.waits.length ≤ S.waits.length + m ∧ (flushR S J b lo m).1.written ≤ S.written + m := by
  have hw : (writeR S J b lo m).1.n = S.n ∧ (writeR S J b lo m).1.waits.length ≤ S.waits.length + m ∧ (writeR S J b lo m).1.written ≤ S.written + m := by
    unfold writeR
    split
    · exact writeD_sizes S J b lo m
    · rename_i hm
      generalize J.n - (J.place + lo) % J.n = d at *
      obtain ⟨s1, s2, s3⟩ := writeD_sizes S J b lo d
      unfold andT
      split
      · obtain ⟨t1, t2, t3⟩ := writeD_sizes (writeD S J b lo d).1 J b (lo + d) (m - d)
        dsimp only
        exact ⟨t1.trans s1, by omega, by omega⟩
      · exact ⟨s1, by omega, by omega⟩
  obtain ⟨s1, s2, s3⟩ := hw
  unfold flushR
  refine andT_sizes (P := fun s => s.n = S.n ∧ s.waits.length ≤ S.waits.length + m ∧ s.written ≤ S.written + m) ⟨s1, s2, s3⟩ fun s hs => ?_
  unfold flushD tick
  split
  · exact hs
  · refine ⟨hs.1, ?_, hs.2.2⟩
    show (0 : Nat) ≤ _
    exact Nat.zero_le _
set_option maxRecDepth 20000 in
set_option maxHeartbeats 1000000 in
theorem lay7 (K : Nat → Prop) (w : World) (p : Nat) (L : Loc) (S : St) (J : JS) (b : List Nat) (P x off T cap : Nat) (h : IsJ JHead K w p L S J) (hn1 : 4 ≤ J.n) (hn2 : J.n ≤ 4096) (hfit : J.fr + J.n ≤ S.n) (hpl : J.place < J.n) (hP : 1 ≤ P) (hPn : P + 1 ≤ J.n) (hT : T = 128 * (P + 1))
    (hb : ∀ z ∈ b, z < 256) (hl : b.length = 128 * (P + 1)) (hv : Octs w (.slice (some ⟨x, off, none⟩) T cap) b) (hxK : K x) (hm1 : S.waits.length + P + 1 ≤ 1000000000) (hm2 : S.written + P + 1 ≤ 1000000000) :
    Calls Tryd.prog 26 #[.pointer (some ⟨p, 0, none⟩), .slice (some ⟨x, off, none⟩) T cap] w fun e w' => ∃ wv, e = .returned (.int .i64 (errI (layR S J b P).2)) ∧ IsJ JHead K w' p { L with wv := wv } (layR S J b P).1 J ∧ Kept K w w' := by
  have hcap := hv.capLe
  obtain ⟨D, hD⟩ : ∃ D, D = 128 * P := ⟨_, rfl⟩
  obtain ⟨z1, z2, z3⟩ := flushR_sizes S J b 0 P
  obtain ⟨-, -, -, c3, -⟩ := h.1.cell
  have HC : Hid (∀ w', Kept (fun k => K k ∨ k = p) w w' → w'.cell? ⟨p, 3, none⟩ = some (.int .i64 (J.place : Nat))) := fun w' hk => (hk.cell (p := ⟨p, 3, none⟩) (.inr rfl)).trans c3
  have HF1 : Hid (Calls Tryd.prog 39 #[.pointer (some ⟨p, 0, none⟩), .int .i64 (J.place : Nat), .slice (some ⟨x, off, none⟩) D cap] w.drew fun e w' => ∃ wv, e = .returned (.int .i64 (errI (flushR S J b 0 P).2)) ∧ IsJ JHead K w' p { L with wv := wv } (flushR S J b 0 P).1 J ∧ Kept K w.drew w') := by
    refine flush7 K w.drew p L S J b 0 P J.place x off D cap h.drewH hn1 hn2 hfit ?_ hD hb hP (by omega) (by omega) ?_ hxK (by omega) (by omega)
    · rw [Nat.add_zero, Nat.mod_eq_of_lt hpl]
    · have ho := hv.drew.cut (n := D) (by omega)
      rw [hD] at ho ⊢
      exact ho
  have HF2 : Hid (∀ w6 wv6, IsJ JHead K w6 p { L with wv := wv6 } (flushR S J b 0 P).1 J → Kept K w w6 → Hid (Calls Tryd.prog 40 #[.pointer (some ⟨p, 0, none⟩), .int .i64 (P : Nat)] w6.drew fun x w' => x = .returned (.int .i64 (((J.place + P) % J.n : Nat) : Int)) ∧ w' = w6.drew) ∧ Hid (Calls Tryd.prog 39 #[.pointer (some ⟨p, 0, none⟩), .int .i64 (((J.place + P) % J.n : Nat) : Int), .slice (some ⟨x, off + D, none⟩) (T - D : Nat) (cap - D : Nat)] w6.drew fun e w' => ∃ wv, e = .returned (.int .i64 (errI (flushR (flushR S J b 0 P).1 J b P 1).2)) ∧ IsJ JHead K w' p { L with wv := wv } (flushR (flushR S J b 0 P).1 J b P 1).1 J ∧ Kept K w6.drew w')) := by
    intro w6 wv6 hj6 hk6
    refine ⟨behind7 w6.drew p L.b J P (hj6.1.same rfl) hpl hn2 (by omega), ?_⟩
    refine flush7 K w6.drew p { L with wv := wv6 } _ J b P 1 _ x (off + D) _ _ hj6.drewH hn1 hn2 (by rw [z1]; exact hfit) rfl (by omega) hb (by omega) (by omega) (by omega) ?_ hxK (by omega) (by omega)
    have ho := (hv.ofKept hk6 hxK).drew.back (n := D) (x := off + D) (by omega) (.inl rfl)
    rw [List.take_of_length_le (by rw [List.length_drop]; omega)]
    rw [hD] at ho ⊢
    exact ho
  have HA1 : Hid ((flushR S J b 0 P).2 = true → layR S J b P = flushR (flushR S J b 0 P).1 J b P 1) := fun e => by unfold layR andT; rw [if_pos e]
  have HA2 : Hid ((flushR S J b 0 P).2 = false → layR S J b P = flushR S J b 0 P) := fun e => by unfold layR andT; rw [if_neg (by rw [e]; exact Bool.false_ne_true)]
  have e1 : ((T : Nat) : Int) - 128 = (D : Nat) := by omega
  have e3 : ((D : Nat) : Int).tdiv 128 = (P : Nat) := by rw [hD, Int.natCast_mul]; exact Int.mul_tdiv_cancel_left _ (by decide)
  have WR : Hid (wrap64 (D : Nat) = (D : Nat) ∧ wrap64 (P : Nat) = (P : Nat) ∧ IntKind.i64.wrap (P : Nat) = (P : Nat)) := ⟨wr_small (by omega), wr_small (by omega), wr_kind (by omega)⟩
  have q4 : ((D : Nat) : Int) ≤ (cap : Nat) := by omega
  have q5 : (0 : Int) ≤ (D : Nat) := by omega
  have q7 : ((T : Nat) : Int) ≤ (cap : Nat) := by omega
  have q8 : ((D : Nat) : Int) ≤ (T : Nat) := by omega
  have q9 : (cap = D) = False := eq_false (by omega)
  generalize layR S J b P = R3 at *
  generalize flushR S J b 0 P = R at *
  generalize flushR R.1 J b P 1 = R2 at *
  generalize (J.place + P) % J.n = pl at *
  obtain ⟨er, her⟩ : ∃ er, er = errI R.2 := ⟨_, rfl⟩
  rw [← her] at HF1
  have HER : Hid (er = errI R.2) := her
  have hks := h.2.1.kl
  clear her h hn1 hn2 hfit hpl hP hPn hT hb hl hv hxK hm1 hm2 hcap hD z1 z2 z3 c3 hks
  go_enter Tryd.func26, Tryd.ntmps26
  obtain ⟨w1, w2, w3⟩ := WR.out
  go_wp2_with fail
  go_region_held3 (fun w' => w'.cell? ⟨p, 3, none⟩ = some (.int .i64 (J.place : Nat))) (first | exact HC.out _ (Kept.refl _ _).drew | exact (hj6.1.cell).2.2.2.1) (first
    | (go_at_call 39; refine HF1.out.mono ?_; rintro e w6 ⟨wv6, rfl, hj6, hk6⟩))
  have HJ6 : Hid (IsJ JHead K w6 p { L with wv := wv6 } R.1 J) := hj6
  have HK6 : Hid (Kept K w w6) := Kept.undrew hk6
  clear hj6 hk6 HF1
  rcases errI_cases R.2 with ⟨hr, he⟩ | ⟨hr, he⟩
  · obtain rfl : er = 0 := HER.out.trans he
    have HR3 : Hid (R3 = R2) := HA1.out hr
    obtain ⟨HB, HF⟩ := HF2.out w6 wv6 HJ6.out HK6.out
    obtain ⟨e2, he2⟩ : ∃ e2, e2 = errI R2.2 := ⟨_, rfl⟩
    rw [← he2] at HF
    have HE2 : Hid (e2 = errI R2.2) := he2
    clear hr he HER HA1 HA2 HF2 he2
    go_wp2_with fail
    go_region_held3 (fun _ => True) (exact trivial) (first
      | (go_at_call 40; refine HB.out.mono ?_; rintro e w8 ⟨rfl, rfl⟩)
      | (go_at_call 39; refine HF.out.mono ?_; rintro e w7 ⟨wv7, rfl, hj7, hk7⟩))
    have HJ7 : Hid (IsJ JHead K w7 p { L with wv := wv7 } R2.1 J ∧ Kept K w w7) := ⟨hj7, HK6.out.trans (Kept.undrew hk7)⟩
    clear hj7 hk7 HB HF
    go_wp2
    go_ret
    rw [HR3.out]
    exact ⟨wv7, ret_errI HE2.out, HJ7.out⟩
  · obtain rfl : er = 10 := HER.out.trans he
    have HR3 : Hid (R3 = R) := HA2.out hr
    have HE9 : Hid ((10 : Int) = errI R.2) := he.symm
    clear hr he HER HA1 HA2 HF2
    go_wp2
    go_ret
    rw [HR3.out]
    exact ⟨wv6, ret_errI HE9.out, HJ6.out, HK6.out⟩
end Go.Proofs.YthhdkadjlddmkaaDoor

/- Contract of the journal's Append. -/
namespace Go.Proofs.YthhdkadjlddmkaaDoor
open Go.RowKit
set_option linter.unusedVariables false

theorem IsJ.belowH {K : Nat → Prop} {w w' : World} {p : Nat} {L : Loc} {S : St} {J : JS} (h : IsJ JHead K w p L S J) (hb : Below w.heap.size w w') : IsJ JHead K w' p L S J := ⟨h.1.same (hb.block _ h.1.lt), h.2.1.belowed hb, h.2.2⟩
/-- A block that came since is taken among those that are kept. -/
theorem IsJ.newH {K : Nat → Prop} {w w' : World} {p : Nat} {L : Loc} {S : St} {J : JS} (h : IsJ JHead K w p L S J) (hb : Below w.heap.size w w') {x : Nat} (h1 : w.heap.size ≤ x) (h2 : x < w'.heap.size) : IsJ JHead (fun k => K k ∨ k = x) w' p L S J := by
  have hj := h.belowH hb
  have hp := h.1.lt
  refine ⟨hj.1, hj.2.1.turnK (fun k hf hk => ?_) (fun k hk => ?_), fun hk => ?_⟩
  · have hlt := h.2.1.lt k hf
    rcases hk with (hk | hk) | hk
    · exact h.2.1.nK k hf (.inl hk)
    · omega
    · exact h.2.1.nK k hf (.inr hk)
  · rcases hk with (hk | hk) | hk
    · exact hj.2.1.kl k (.inl hk)
    · omega
    · exact hj.2.1.kl k (.inr hk)
  · rcases hk with hk | hk
    · exact h.2.2 hk
    · omega
theorem IsJ.lessH {K K' : Nat → Prop} {w : World} {p : Nat} {L : Loc} {S : St} {J : JS} (h : IsJ JHead K w p L S J) (hK : ∀ k, K' k → K k) : IsJ JHead K' w p L S J :=
  ⟨h.1, h.2.1.less fun k hk => hk.elim (fun a => .inl (hK k a)) .inr, fun hk => h.2.2 (hK p hk)⟩
theorem fitsB_nat (J : JS) (l : Nat) (h1 : 1 ≤ l) (h2 : l ≤ 65000) : fitsB J (l : Nat) = decide (partsN l + 1 ≤ J.n - J.used) := by
  unfold fitsB
  rw [sectorsN_nat l h1 h2]
  exact decide_eq_decide.2 ⟨fun h => by omega, fun h => ⟨by omega, by omega⟩⟩
theorem appendR_go {S : St} {J : JS} {zs : List Nat} (h1 : J.dead = false) (h2 : J.dirty = false) (h3 : 1 ≤ zs.length ∧ zs.length ≤ 65000) (h4 : partsN zs.length + 1 ≤ J.n - J.used) (hp : J.place < J.n) :
    ((layR S J (J.bytes zs) (partsN zs.length)).2 = true → appendR S J zs = ((layR S J (J.bytes zs) (partsN zs.length)).1, J.after (partsN zs.length + 1), 0)) ∧ ((layR S J (J.bytes zs) (partsN zs.length)).2 = false → appendR S J zs = ((layR S J (J.bytes zs) (partsN zs.length)).1, J.died, 10)) := by
  rw [lay_append _ _ _ _ hp]
  unfold appendR
  rw [if_neg (by rw [h1]; decide), if_neg (by rw [h2]; decide), if_neg (by simp [h3]), if_neg (by omega)]
  exact ⟨fun e => if_pos e, fun e => if_neg (by rw [e]; exact Bool.false_ne_true)⟩

set_option maxRecDepth 20000 in
set_option maxHeartbeats 1000000 in
theorem append7 (K : Nat → Prop) (w : World) (p : Nat) (L : Loc) (S : St) (J : JS) (v : Value) (zs : List Nat) (h : IsJ JHead K w p L S J) (hk : JOk S J) (ho : Octs w v zs) (hm1 : S.waits.length + 5000 ≤ 1000000000) (hm2 : S.written + 5000 ≤ 1000000000) (ht : StepsK K w) :
    Calls Tryd.prog 10 #[.pointer (some ⟨p, 0, none⟩), v] w fun x w' => ∃ wv, x = .returned (.int .i64 ((appendR S J zs).2.2 : Nat)) ∧ IsJ JHead K w' p { L with wv := wv } (appendR S J zs).1 (appendR S J zs).2.1 ∧ Kept K w w' := by
  obtain ⟨a, cap, rfl⟩ := ho.shape
  have hlen := ho.len
  obtain ⟨l, hl⟩ : ∃ l, l = zs.length := ⟨_, rfl⟩
  rw [← hl] at ho hlen ⊢
  have HH : Hid (IsJ JHead K w p L S J) := h
  obtain ⟨-, -, -, -, -, -, -, c7, c8⟩ := h.1.cell
  by_cases hd : J.dead = true
  · have HR : Hid (appendR S J zs = (S, J, 10)) := if_pos hd
    rw [HR.out]
    rw [hd] at c8
    clear h hk ho hm1 hm2 ht hlen hd c7 hl HR
    go_enter Tryd.func10, Tryd.ntmps10
    go_wp2
    go_ret
    exact ⟨L.wv, rfl, HH.out, Kept.refl _ _⟩
  have hd' : J.dead = false := by simpa using hd
  rw [hd'] at c8
  by_cases hdi : J.dirty = true
  · have HR : Hid (appendR S J zs = (S, J, 19)) := by unfold Hid appendR; rw [if_neg hd, if_pos hdi]
    rw [HR.out]
    rw [hdi] at c7
    clear h hk ho hm1 hm2 ht hlen hd hd' hdi hl HR
    go_enter Tryd.func10, Tryd.ntmps10
    go_wp2
    go_ret
    exact ⟨L.wv, rfl, HH.out, Kept.refl _ _⟩
  have hdi' : J.dirty = false := by simpa using hdi
  rw [hdi'] at c7
  have HSE : Hid (Calls Tryd.prog 24 #[.int .i64 (l : Nat)] w fun x w' => x = .returned (.int .i64 (sectorsN l)) ∧ w' = w) := by
    exact (sectors6 (l : Nat) w (by omega) (by omega)).mono fun x w' ⟨e1, e2⟩ => ⟨e1, e2⟩
  by_cases hsz : 1 ≤ l ∧ l ≤ 65000
  · have hsn : sectorsN l = ((partsN l + 1 : Nat) : Int) := sectorsN_nat l hsz.1 hsz.2
    rw [hsn] at HSE
    have hfb := fits7 w p L.b J (l : Nat) h.1 hk.used hk.n2 (by omega) (by omega)
    rw [fitsB_nat J l hsz.1 hsz.2] at hfb
    have hne : ((partsN l + 1 : Nat) : Int) ≠ 0 := by omega
    by_cases hfit : partsN l + 1 ≤ J.n - J.used
    · rw [decide_eq_true hfit] at hfb
      have HFB : Hid (Calls Tryd.prog 17 #[.pointer (some ⟨p, 0, none⟩), .int .i64 (l : Nat)] w fun x w' => x = .returned (.bool true) ∧ ∃ q, w' = w.drewN q) := hfb
      obtain ⟨P, hP⟩ : ∃ P, P = partsN l := ⟨_, rfl⟩
      obtain ⟨T, hT⟩ : ∃ T, T = 128 * (P + 1) := ⟨_, rfl⟩
      have hid : okId (J.epoch : Nat) (J.count : Nat) = true := okId_nat hk.e1 hk.e2 (by have := hk.count; omega)
      have hP1 : 1 ≤ P ∧ P + 1 ≤ J.n - J.used ∧ P ≤ 4095 := by
        have h1 := hk.n2
        have h2 : 1 ≤ partsN l := by unfold partsN; omega
        omega
      have hbl : (J.bytes zs).length = 128 * (P + 1) := by rw [J.bytes_length, ← hl, hP]
      have hbs : ∀ z ∈ J.bytes zs, z < 256 := cutS_small ho.small _ _
      obtain ⟨g1, g2⟩ := appendR_go (S := S) (J := J) (zs := zs) hd' hdi' (by rw [← hl]; exact hsz) (by rw [← hl]; exact hfit) hk.place
      rw [← hl, ← hP] at g1 g2
      have HCUT : Hid (∀ W, Below w.heap.size w W → Kept K w W → Calls Tryd.prog 25 #[.int .i64 (J.epoch : Nat), .int .i64 (J.count : Nat), .slice a l cap] W.drew fun x w' => ∃ cap', x = .returned (.tuple #[.slice (some ⟨W.heap.size + 2, 0, none⟩) T cap', .int .i64 0]) ∧ Octs w' (.slice (some ⟨W.heap.size + 2, 0, none⟩) T cap') (J.bytes zs) ∧ Below W.heap.size W.drew w') := by
        intro W hb hkW
        refine (cut6_at (J.epoch : Nat) (J.count : Nat) (.slice a l cap) zs W.drew hid (ho.kept hb).drew (by omega) (by omega) (ht W.drew (hkW.drew))).mono ?_
        rintro x w' ⟨u, e1, e2, e3, T', C', e4⟩
        subst e4
        have e5 := e2.lenEq
        have e6 : T' = T := by
          rw [hT, ← hbl]
          exact e5.symm
        subst e6
        exact ⟨C', e1, e2, e3⟩
      have HLAY : Hid (∀ W W2 cap', Below w.heap.size w W → Below W.heap.size W W2 → Octs W2 (.slice (some ⟨W.heap.size + 2, 0, none⟩) T cap') (J.bytes zs) → Calls Tryd.prog 26 #[.pointer (some ⟨p, 0, none⟩), .slice (some ⟨W.heap.size + 2, 0, none⟩) T cap'] W2 fun e w' => ∃ wv, e = .returned (.int .i64 (errI (layR S J (J.bytes zs) P).2)) ∧ IsJ JHead K w' p { L with wv := wv } (layR S J (J.bytes zs) P).1 J ∧ Kept K w w') := by
        intro W W2 cap' hb hb2 hoc
        have hj := h.belowH hb
        have hx : W.heap.size + 2 < W2.heap.size := by
          obtain ⟨b1, off1, e1, e2, -⟩ := hoc.addr (by omega)
          cases e1
          exact e2
        have hj2 := hj.newH hb2 (x := W.heap.size + 2) (by omega) hx
        refine (lay7 _ W2 p L S J (J.bytes zs) P _ 0 T cap' hj2 hk.n1 hk.n2 hk.fit hk.place hP1.1 (by omega) hT hbs hbl hoc (.inr rfl) (by omega) (by omega)).mono ?_
        rintro e w' ⟨wv, e1, e2, e3⟩
        exact ⟨wv, e1, e2.lessH fun k hk => .inl hk, ((Kept.ofBelow hb fun k hk => h.2.1.kl k (.inl hk)).trans (Kept.ofBelow hb2 fun k hk => hj.2.1.kl k (.inl hk))).trans (e3.mono fun k hk => .inl hk)⟩
      have HPS : Hid (∀ W wv S', IsJ JHead K W p { L with wv := wv } S' J → Kept K w W → Calls Tryd.prog 27 #[.pointer (some ⟨p, 0, none⟩), .int .i64 (P + 1 : Nat)] W fun x w' => (∃ v, x = .returned v) ∧ IsJ JHead K w' p { L with wv := wv } S' (J.after (P + 1)) ∧ Kept K w w') := by
        intro W wv S' hj hkW
        refine (pass7 K W p { L with wv := wv } S' J (P + 1) hj hk.place hk.n2 hP1.2.1 hk.used (by have := hk.count; omega)).mono ?_
        rintro x w' ⟨e1, e2, e3, -⟩
        exact ⟨e1, e2, hkW.trans e3⟩
      have HDEAD : Hid (∀ W wv S', IsJ JHead K W p { L with wv := wv } S' J → Kept K w W → IsJ JHead K (W.setCell ⟨p, 8, none⟩ (.bool true)) p { L with wv := wv } S' J.died ∧ Kept K w (W.setCell ⟨p, 8, none⟩ (.bool true))) := fun W wv S' hj hkW =>
        ⟨hj.set7 (J' := J.died) 8 (.bool true) (hj.1.set _ _ rfl), hkW.setCell (p := ⟨p, 8, none⟩) hj.2.2 _⟩
      have HDRAW : Hid (∀ q, Below w.heap.size w (w.drewN q) ∧ Kept K w (w.drewN q) ∧ (w.drewN q).cell? ⟨p, 5, none⟩ = some (.int .i64 (J.epoch : Nat)) ∧ (w.drewN q).cell? ⟨p, 6, none⟩ = some (.int .i64 (J.count : Nat))) := fun q =>
        ⟨below_drewN7 w q, Kept.ofBelow (below_drewN7 w q) fun k hk => h.2.1.kl k (.inl hk), h.1.cell.2.2.2.2.2.1, h.1.cell.2.2.2.2.2.2.1⟩
      have HG1 : Hid ((layR S J (J.bytes zs) P).2 = true → appendR S J zs = ((layR S J (J.bytes zs) P).1, J.after (P + 1), 0)) := g1
      have HG2 : Hid ((layR S J (J.bytes zs) P).2 = false → appendR S J zs = ((layR S J (J.bytes zs) P).1, J.died, 10)) := g2
      have HTT : Hid (((T : Nat) : Int).tdiv 128 = ((P + 1 : Nat) : Int) ∧ wrap64 ((P + 1 : Nat) : Int) = ((P + 1 : Nat) : Int)) := ⟨by rw [hT, Int.natCast_mul]; exact Int.mul_tdiv_cancel_left _ (by decide), wr_small (by omega)⟩
      generalize layR S J (J.bytes zs) P = R at *
      obtain ⟨er, her⟩ : ∃ er, er = errI R.2 := ⟨_, rfl⟩
      rw [← her] at HLAY
      have HER : Hid (er = errI R.2) := her
      generalize ((partsN l + 1 : Nat) : Int) = sn at *
      generalize appendR S J zs = AR at *
      clear h hk ho hm1 hm2 ht hlen hd hd' hdi hdi' hl hsz hsn hfb hfit hid hP1 hbl hbs g1 g2 her hT hP
      go_enter Tryd.func10, Tryd.ntmps10
      go_wp2_with fail
      refine HSE.out.mono ?_
      rintro x w1 ⟨rfl, rfl⟩
      go_wp2_with fail
      refine HFB.out.mono ?_
      rintro x w2 ⟨rfl, q, hw2⟩
      obtain ⟨hb2, hk2, d5, d6⟩ := HDRAW.out q
      rw [← hw2] at hb2 hk2 d5 d6
      have HB2 : Hid (Below w1.heap.size w1 w2) := hb2
      have HK2 : Hid (Kept K w1 w2) := hk2
      have HKC : Hid (∀ W, Below w2.heap.size w2.drew W → W.cell? ⟨p, 5, none⟩ = some (.int .i64 (J.epoch : Nat)) ∧ W.cell? ⟨p, 6, none⟩ = some (.int .i64 (J.count : Nat))) := fun W hb =>
        ⟨(World.cell?_of_block (w := w2) (a := ⟨p, 5, none⟩) (hb.block p (HH.out.belowH hb2).1.lt)).trans d5, (World.cell?_of_block (w := w2) (a := ⟨p, 6, none⟩) (hb.block p (HH.out.belowH hb2).1.lt)).trans d6⟩
      have HC2 := HCUT.out w2 hb2 hk2
      have HC3 : Hid (Calls Tryd.prog 25 #[.int .i64 (J.epoch : Nat), .int .i64 (J.count : Nat), .slice a l cap] w2.drew fun x w' => ∃ cap', x = .returned (.tuple #[.slice (some ⟨w2.heap.size + 2, 0, none⟩) T cap', .int .i64 0]) ∧ Octs w' (.slice (some ⟨w2.heap.size + 2, 0, none⟩) T cap') (J.bytes zs) ∧ Below w2.heap.size w2.drew w') := HC2
      clear hb2 hk2 hw2 HC2 HCUT HDRAW HFB HSE
      go_wp2_with fail
      go_region_held3 (fun w' => w'.cell? ⟨p, 5, none⟩ = some (.int .i64 (J.epoch : Nat)) ∧ w'.cell? ⟨p, 6, none⟩ = some (.int .i64 (J.count : Nat))) (first | exact HKC.out _ ((Below.refl _ _)) | exact HKC.out _ hcb) (first
        | (go_at_call 25; refine HC3.out.mono ?_; rintro e w3 ⟨cap', rfl, hoc, hcb⟩))
      have HCB : Hid (Below w2.heap.size w2 w3) := ⟨hcb.os, hcb.tape, hcb.output, hcb.size, hcb.block⟩
      have HL3 := HLAY.out w2 w3 cap' HB2.out HCB.out hoc
      have HL4 : Hid (Calls Tryd.prog 26 #[.pointer (some ⟨p, 0, none⟩), .slice (some ⟨w2.heap.size + 2, 0, none⟩) T cap'] w3 fun e w' => ∃ wv, e = .returned (.int .i64 er) ∧ IsJ JHead K w' p { L with wv := wv } R.1 J ∧ Kept K w1 w') := HL3
      clear hcb hoc HL3 HLAY HC3 HKC d5 d6
      go_wp2_with fail
      refine HL4.out.mono ?_
      rintro e w4 ⟨wv4, rfl, hj4, hk4⟩
      have HJ4 : Hid (IsJ JHead K w4 p { L with wv := wv4 } R.1 J) := hj4
      have HK4 : Hid (Kept K w1 w4) := hk4
      have f8 := hj4.1.frozen 8
      obtain ⟨-, -, -, -, -, -, -, -, c8'⟩ := hj4.1.cell
      clear hj4 hk4 HL4
      rcases errI_cases R.2 with ⟨hr, he⟩ | ⟨hr, he⟩
      · obtain rfl : er = 0 := HER.out.trans he
        have HA : Hid (AR = (R.1, J.after (P + 1), 0)) := HG1.out hr
        have HP4 : Hid (Calls Tryd.prog 27 #[.pointer (some ⟨p, 0, none⟩), .int .i64 ((P + 1 : Nat) : Int)] w4 fun x w' => (∃ v, x = .returned v) ∧ IsJ JHead K w' p { L with wv := wv4 } R.1 (J.after (P + 1)) ∧ Kept K w1 w') := HPS.out w4 wv4 R.1 HJ4.out HK4.out
        obtain ⟨t1, t2⟩ := HTT.out
        generalize ((P + 1 : Nat) : Int) = pi at *
        clear hr he HER HG1 HG2 HPS HDEAD f8 c8'
        go_wp2_with fail
        refine HP4.out.mono ?_
        rintro e w5 ⟨⟨ve, rfl⟩, hj5, hk5⟩
        have HJ5 : Hid (IsJ JHead K w5 p { L with wv := wv4 } R.1 (J.after (P + 1)) ∧ Kept K w1 w5) := ⟨hj5, hk5⟩
        clear hj5 hk5 HP4
        go_wp2
        go_ret
        rw [HA.out]
        exact ⟨wv4, rfl, HJ5.out⟩
      · obtain rfl : er = 10 := HER.out.trans he
        have HA : Hid (AR = (R.1, J.died, 10)) := HG2.out hr
        have HD4 : Hid (IsJ JHead K (w4.setCell ⟨p, 8, none⟩ (.bool true)) p { L with wv := wv4 } R.1 J.died ∧ Kept K w1 (w4.setCell ⟨p, 8, none⟩ (.bool true))) := HDEAD.out w4 wv4 R.1 HJ4.out HK4.out
        clear hr he HER HG1 HG2 HPS HDEAD
        go_wp2
        go_ret
        rw [HA.out]
        exact ⟨wv4, rfl, HD4.out⟩
    · rw [decide_eq_false hfit] at hfb
      have HFB : Hid (Calls Tryd.prog 17 #[.pointer (some ⟨p, 0, none⟩), .int .i64 (l : Nat)] w fun x w' => x = .returned (.bool false) ∧ ∃ q, w' = w.drewN q) := hfb
      have HR : Hid (appendR S J zs = (S, J, 11)) := by
        unfold Hid appendR
        rw [if_neg hd, if_neg hdi, if_neg (by rw [← hl]; simp [hsz]), if_pos (by rw [← hl]; omega)]
      rw [HR.out]
      generalize ((partsN l + 1 : Nat) : Int) = sn at *
      clear h hk ho hm1 hm2 ht hlen hd hd' hdi hdi' hl HR hsz hsn hfb hfit
      go_enter Tryd.func10, Tryd.ntmps10
      go_wp2_with fail
      refine HSE.out.mono ?_
      rintro x w1 ⟨rfl, rfl⟩
      go_wp2_with fail
      refine HFB.out.mono ?_
      rintro x w1 ⟨rfl, q, rfl⟩
      go_wp2
      go_ret
      exact ⟨L.wv, rfl, HH.out.belowH (below_drewN7 _ _), Kept.ofBelow (below_drewN7 _ _) fun k hk => HH.out.2.1.kl k (.inl hk)⟩
  · have hsn : sectorsN l = 0 := if_neg (by omega)
    rw [hsn] at HSE
    have HR : Hid (appendR S J zs = (S, J, 2)) := by
      unfold Hid appendR
      rw [if_neg hd, if_neg hdi, if_pos (by rw [← hl]; exact hsz)]
    rw [HR.out]
    clear h hk ho hm1 hm2 ht hlen hd hd' hdi hdi' hl HR hsz hsn
    go_enter Tryd.func10, Tryd.ntmps10
    go_wp2_with fail
    refine HSE.out.mono ?_
    rintro x w1 ⟨rfl, rfl⟩
    go_wp2
    go_ret
    exact ⟨L.wv, rfl, HH.out, Kept.refl _ _⟩
end Go.Proofs.YthhdkadjlddmkaaDoor

/- A law of my own: 'append(own, make([]byte, m)...)', which the compiler takes as one: so many noughts behind the row. -/
namespace Go.Proofs.YthhdkadjlddmkaaDoor
open Go.RowKit
set_option linter.unusedVariables false

theorem str_zeros (m : Nat) : Lib.strCells (strN (zl m)) = u8s (zl m) := by
  have h := octsOf_strN (zl m) (zl_small m)
  have e : Lib.strCells (strN (zl m)) = u8s (octsOf (strN (zl m))) := by simp [Lib.strCells, u8s, octsOf]
  rw [e, h]
theorem zeroCells_u8 (m : Nat) : Builtin.zeroCells (Value.int .u8 0).cells m = (u8s (zl m)).toArray := by
  apply Array.ext'
  simp only [Builtin.zeroCells, Value.cells, u8s, zl]
  apply List.ext_getElem?
  intro i
  by_cases h : i < m
  · simp [h, Nat.mod_one]
  · simp [h]

theorem run_append_zeros {P : Program} (w : World) (t ti ts ty e : TypeId) (i : TypeInfo) (ht : P.underlying t = some (.slice e)) (hti : P.underlying ti = some (.int .i64)) (hts : P.underlying ts = some .string) (hi : P.info? e = some i) (hz : i.zero = some (.int .u8 0))
    (hsize : i.size = 1) (hby : i.bytes = 1) (b : Option Addr) (l c m : Nat) (hm : 0 < m) (hm2 : m ≤ 100000) (h63 : l + m ≤ 9223372036854775807) (hfit : c < l + m → Builtin.nextslicecap (l + m) c ≤ 281474976710656) :
    (Builtin.append_ #[t, ti] ty #[.slice b l c, .int .i64 (m : Nat)]).run P w = (Builtin.append_ #[t, ts] ty #[.slice b l c, .string (strN (zl m))]).run P w := by
  have hs : (strN (zl m)).size = m := by rw [strN_size, zl_length]
  have hf : ∀ w', (Builtin.firstCells 1 m (.string (strN (zl m)))).run P w' = .ok (u8s (zl m)).toArray w' := fun w' => by
    have := Lib.run_firstCells_string (P := P) w' 1 (strN (zl m))
    rwa [str_zeros, hs] at this
  have hzc := zeroCells_u8 m
  have hw : IntKind.i64.wrap (m : Int) = (m : Int) := by rw [IntKind.wrap_i64]; omega
  have h1 : ¬ ((m : Int) < 0) := by omega
  have h2 : ¬ ((281474976710656 : Int) < m) := by omega
  have h3 : ¬ m = 0 := by omega
  have hai : (asIntOf (.int .i64 (m : Nat))).run P w = .ok (.i64, (m : Int)) w := rfl
  by_cases hr : l + m ≤ c
  · simp [Builtin.append_, run_underlying ht, run_underlying hti, run_underlying hts, sizeOf, typeInfo, zeroValue, hi, hz, hsize, hby, Builtin.lenOf, asInt, hai, hw, h1, h2, h3, hs, hr, hf, hzc]
  · have h4 : ¬ (9223372036854775807 < ((l : Int) + (m : Int))) := by omega
    have h5 : ¬ (281474976710656 < Builtin.nextslicecap (l + m) c) := by have := hfit (by omega); omega
    simp [Builtin.append_, run_underlying ht, run_underlying hti, run_underlying hts, sizeOf, typeInfo, zeroValue, hi, hz, hsize, hby, Builtin.lenOf, asInt, hai, hw, h1, h2, h3, h4, h5, hs, hr, hf, hzc]

theorem wpList_append_zeros {P : Program} (w : World) {ops : Array Oper} {rest : List Oper} {o : Oper} {a : Act} {Q : Exit → Act → World → Prop} (hgd : o.guard = none) (s x : Operand) (t ti ts : TypeId)
    (ho : o.op = .call { callee := .builtin .append, args := #[s, x], argTypes := #[t, ti] })
    (base : Nat) (e : TypeId) (i : TypeInfo) (ht : P.underlying t = some (.slice e)) (hti : P.underlying ti = some (.int .i64)) (hts : P.underlying ts = some .string) (hi : P.info? e = some i) (hz : i.zero = some (.int .u8 0)) (hsize : i.size = 1) (hby : i.bytes = 1)
    (v : Value) (n : Nat) (xs : List Nat) (hs : a.eval s = v) (hown : w.ownsRow base e 1 v n (u8s xs)) (m : Nat) (hx : a.eval x = .int .i64 (m : Nat)) (hm : 0 < m) (hm2 : m ≤ 100000) (hn : n ≤ 100000) (hbase : base ≤ w.heap.size)
    (h : ∀ v' w', w'.ownsRow base e 1 v' (n + m) (u8s (xs ++ zl m)) → w.grownBy w' v.ownBlock → wpList P ops Q rest (a.put o.dst v') w') : wpList P ops Q (o :: rest) a w := by
  refine wpList_plain hgd fun K hK => ?_
  have hsz : (strN (zl m)).size = m := by rw [strN_size, zl_length]
  obtain ⟨v', w', hr, h2, h3, _⟩ := Lib.run_append_own_string (P := P) w base t ts o.type e i ht hts hi hz hsize hby v n (u8s xs) hown (strN (zl m)) (by rw [hsz]; unfold maxLen; omega) (by rw [hsz]; omega) hbase
  rw [hsz, str_zeros, ← u8s_append] at h2
  obtain ⟨b, c, rfl, hc⟩ : ∃ b c, v = .slice b n c ∧ n ≤ c := by
    rcases hown.2 with ⟨rfl, rfl⟩ | ⟨g, cap, cur, rfl, _, _, h, _⟩
    · exact ⟨none, 0, rfl, Nat.le_refl _⟩
    · exact ⟨_, cap, rfl, h⟩
  have hr' := run_append_zeros (P := P) w t ti ts o.type e i ht hti hts hi hz hsize hby b n c m hm hm2 (by omega) (fun hc => by
    have := growslice_fits (need := n + m) (old := c) (bytes := 1) (by omega) (by omega)
    simpa using this)
  rw [hr] at hr'
  unfold Oper.wp execOp
  simp only [ho, resolve, invoke, builtin, Sem.run_bind, Sem.run_pure, Result.andThen_ok, List.map_toArray, List.map_cons, List.map_nil, hs, hx, hr']
  exact hK _ _ (h v' w' h2 h3)
end Go.Proofs.YthhdkadjlddmkaaDoor

/- Contracts of slices.Grow (of nothing) and slices.Concat over octets. -/
namespace Go.Proofs.YthhdkadjlddmkaaDoor
open Go.RowKit
set_option linter.unusedVariables false

theorem ownsRow_none {w : World} {B : Nat} {e : TypeId} {size : Nat} {g n cap : Nat} {xs : List Value} (h : w.ownsRow B e size (.slice (some ⟨g, 0, none⟩) n cap) n xs) : w.ownsRow B e size (.slice (some ⟨g, 0, none⟩) 0 cap) 0 [] := by
  rcases h.2 with ⟨e1, -⟩ | ⟨g', cap', cur, e1, h1, h2, h3, h4, h5, -⟩
  · cases e1
  · cases e1
    exact ⟨by simp, .inr ⟨g, cap, cur, rfl, h1, h2, Nat.zero_le _, h4, h5, by simp⟩⟩
set_option maxRecDepth 20000 in
set_option maxHeartbeats 400000 in
theorem grow7 (n : Nat) (w : World) (h1 : 1 ≤ n) (hn : n ≤ 100000) :
    Calls Tryd.prog 60 #[.slice none 0 0, .int .i64 (n : Nat)] w fun x w' => ∃ u, x = .returned u ∧ w'.ownsRow w.heap.size 5 1 u 0 [] ∧ Below w.heap.size w w' := by
  have e1 : ¬ ((n : Nat) : Int) < 0 := by omega
  have e2 : (0 : Int) < (n : Nat) := by omega
  have e3 : wrap64 ((n : Nat) : Int) = (n : Nat) := by unfold wrap64; omega
  obtain ⟨i0, hi, hz0, hz1, hz2⟩ := info_parts Tryd.infoU8'
  have HN : Hid (0 < n ∧ n ≤ 100000) := ⟨h1, hn⟩
  clear h1 hn
  go_enter Tryd.func60, Tryd.ntmps60
  go_wp2_with (at_builtin; go_must (refine wpList_append_zeros _ rfl _ _ 32 3 9 rfl w.heap.size 5 i0 Tryd.underlying32 Tryd.underlying3 Tryd.underlying9 hi hz0 hz1 hz2 _ 0 [] rfl (World.ownsRow_nil _ _ _ _) n (congrArg (Value.int .i64) e3) HN.out.1 HN.out.2 (by decide) (Nat.le_refl _) ?_))
  intro v' w1 hown hg
  have hb : Below w.heap.size w w1 := below_grown (World.ownsRow_nil w w.heap.size 5 1) hg (Nat.le_refl _)
  obtain ⟨g, cap, rfl⟩ : ∃ g cap, v' = .slice (some ⟨g, 0, none⟩) n cap := by
    rcases hown.2 with ⟨-, h⟩ | ⟨g, cap, cur, h, -⟩
    · have := HN.out.1; omega
    · exact ⟨g, cap, h⟩
  have HO : Hid (w1.ownsRow w.heap.size 5 1 (.slice (some ⟨g, 0, none⟩) 0 cap) 0 []) := ownsRow_none hown
  have HB : Hid (Below w.heap.size w w1) := hb
  clear hown hg hb
  go_wp2
  go_ret
  exact ⟨_, rfl, HO.out, HB.out⟩
theorem flatten_take_le (zss : List (List Nat)) (k : Nat) : (zss.take k).flatten.length ≤ zss.flatten.length := by
  have h1 : zss.flatten = (zss.take k).flatten ++ (zss.drop k).flatten := by rw [← List.flatten_append, List.take_append_drop]
  have h2 := congrArg List.length h1
  rw [List.length_append] at h2
  omega
theorem flatten_take_succ (zss : List (List Nat)) (k : Nat) (h : k < zss.length) : (zss.take (k + 1)).flatten = (zss.take k).flatten ++ (zss[k]?.getD []) := by
  rw [List.take_add_one, List.getElem?_eq_getElem h, List.flatten_append]
  simp
set_option maxRecDepth 20000 in
set_option maxHeartbeats 400000 in
theorem concat7_at (b off cap : Nat) (zss : List (List Nat)) (w : World) (hb : b < w.heap.size) (hlen : zss.length ≤ 9223372036854775807) (hr : ∀ j, j < zss.length → ∃ u, w.cell? ⟨b, off + j, none⟩ = some u ∧ Octs w u (zss[j]?.getD [])) (h1 : 1 ≤ zss.flatten.length) (hn : zss.flatten.length ≤ 100000) :
    Calls Tryd.prog 43 #[.slice (some ⟨b, off, none⟩) zss.length cap] w fun e w' => ∃ v', e = .returned v' ∧ Octs w' v' zss.flatten ∧ Below w.heap.size w w' := by
  obtain ⟨i0, hi, hz0, hz1, hz2⟩ := info_parts Tryd.infoU8'
  have HS0 : Hid (∀ zs ∈ zss, ∀ z ∈ zs, z < 256) := by
    intro zs hz
    obtain ⟨j, hj, rfl⟩ := List.getElem_of_mem hz
    obtain ⟨u, _, hu⟩ := hr j hj
    rw [List.getElem?_eq_getElem hj] at hu
    exact hu.small
  have HRW : Hid (∀ j, j < zss.length → ∃ u, w.cell? ⟨b, off + j, none⟩ = some u ∧ Octs w u (zss[j]?.getD [])) := hr
  have HLE : Hid (1 ≤ zss.flatten.length ∧ zss.flatten.length ≤ 100000) := ⟨h1, hn⟩
  clear hr h1 hn
  go_enter Tryd.func43, Tryd.ntmps43
  go_wp2
  go_loop [3, 11] (fun s i => ∃ k : Nat, k ≤ zss.length ∧ i = .int .i64 k ∧ s = .int .i64 ((zss.take k).flatten.length : Nat)) (fun _ i => zss.length - (intOf i).toNat)
  case atStart => exact ⟨0, Nat.zero_le _, rfl, rfl⟩
  case round =>
    obtain ⟨k, hk, rfl, rfl⟩ := hrel
    by_cases hlt : k < zss.length
    · obtain ⟨u, hcell, hu⟩ := HRW.out k hlt
      obtain ⟨ua, uc, rfl⟩ := hu.shape
      obtain ⟨s, hs⟩ : ∃ s, s = (zss.take k).flatten.length := ⟨_, rfl⟩
      obtain ⟨t, ht⟩ : ∃ t, t = (zss.take (k + 1)).flatten.length := ⟨_, rfl⟩
      have hst : t = s + (zss[k]?.getD []).length := by rw [hs, ht, flatten_take_succ zss k hlt, List.length_append]
      have HT : Hid ((zss.take (k + 1)).flatten.length = t) := ht.symm
      have ht2 : t ≤ 100000 := by rw [ht]; exact Nat.le_trans (flatten_take_le _ _) HLE.out.2
      rw [← hs]
      clear hu hs ht
      generalize (zss[k]?.getD []).length = l at *
      have e1 : ((s : Nat) : Int) + (l : Nat) = (t : Nat) := by omega
      have e2 : wrap64 (t : Nat) = (t : Nat) := by unfold wrap64; omega
      have e3 : ¬ ((t : Nat) : Int) < 0 := by omega
      clear hst ht2
      go_wp2
      go_round
      case rel => exact ⟨k + 1, by omega, by go_num, by rw [HT.out, e2]⟩
      case measure => simp [intOf]; omega
    · obtain rfl : k = zss.length := by omega
      clear hlt
      rw [List.take_length]
      obtain ⟨T, hT⟩ : ∃ T, T = zss.flatten.length := ⟨_, rfl⟩
      rw [← hT]
      have HT : Hid (1 ≤ T ∧ T ≤ 100000) := by rw [hT]; exact HLE.out
      clear hT
      go_wp2_with fail
      refine (grow7 T w HT.out.1 HT.out.2).mono ?_
      rintro e w1 ⟨gv, rfl, hgo, hgb⟩
      have HB1 : Hid (Below w.heap.size w w1) := hgb
      have HG1 : Hid (w1.ownsRow w.heap.size 5 1 gv 0 []) := hgo
      clear hgb hgo
      go_wp2
      go_loopw [6, 27] (fun v i wr => ∃ k : Nat, k ≤ zss.length ∧ i = .int .i64 k ∧ wr.ownsRow w.heap.size 5 1 v (zss.take k).flatten.length (u8s (zss.take k).flatten) ∧ Below w.heap.size w wr)
        (fun _ i _ => zss.length - (intOf i).toNat)
      case atStart => exact ⟨0, Nat.zero_le _, rfl, HG1.out, HB1.out⟩
      case round =>
        obtain ⟨k, hk, rfl, hown, hnx⟩ := hrel
        have hsz := hnx.size
        by_cases hlt : k < zss.length
        · obtain ⟨u, hcell0, hu⟩ := HRW.out k hlt
          have hcell : wr.cell? ⟨b, off + k, none⟩ = some u := (hnx.cell (p := ⟨b, off + k, none⟩) hb).trans hcell0
          have HU : Hid (Octs wr u (zss[k]?.getD [])) := hu.kept hnx
          have HS : Hid ((zss.take (k + 1)).flatten = (zss.take k).flatten ++ (zss[k]?.getD [])) := flatten_take_succ zss k hlt
          have HN : Hid ((zss.take k).flatten.length + (zss[k]?.getD []).length ≤ 100000) := by
            unfold Hid
            have h2 := congrArg List.length HS.out
            have h3 := flatten_take_le zss (k + 1)
            have h4 := HLE.out.2
            rw [List.length_append] at h2
            omega
          clear hu hcell0
          generalize (zss.take k).flatten = xs at *
          generalize zss[k]?.getD [] = zs at *
          go_wp2_with (at_builtin; refine wpList_append_octs _ rfl _ _ 32 rfl w.heap.size 5 i0 Tryd.underlying32 hi hz0 hz1 hz2 _ xs.length xs rfl hown _ zs rfl HU.out ?c1 ?c2 ?_)
          case c1 => have := HN.out; omega
          case c2 => exact hsz
          intro v' w1 hown' hg
          have R : Hid (w1.ownsRow w.heap.size 5 1 v' (zss.take (k + 1)).flatten.length (u8s (zss.take (k + 1)).flatten)) := by
            unfold Hid; rw [HS.out, List.length_append]; exact hown'
          have R2 : Hid (Below w.heap.size w w1) := hnx.trans (below_grown hown hg hsz)
          clear hown' hg hown hnx hcell
          go_wp2
          go_roundw
          case rel => exact ⟨k + 1, by omega, by go_num, R.out, R2.out⟩
          case measure => simp [intOf]; omega
        · obtain rfl : k = zss.length := by omega
          rw [List.take_length] at hown
          have HO : Hid (∀ v, wr.ownsRow w.heap.size 5 1 v zss.flatten.length (u8s zss.flatten) → Octs wr v zss.flatten) := fun v h => Octs.owned h (fun z hz => by
            rw [List.mem_flatten] at hz
            obtain ⟨l, hl, hz⟩ := hz
            exact HS0.out l hl z hz)
          go_wp2
          go_ret
          exact ⟨_, rfl, HO.out _ hown, hnx⟩
end Go.Proofs.YthhdkadjlddmkaaDoor

/- Contract of the ring's 'octets'. -/
namespace Go.Proofs.YthhdkadjlddmkaaDoor
open Go.RowKit
set_option linter.unusedVariables false

theorem Octs.backZ {w : World} {b off l cap n : Nat} {zs : List Nat} (h : Octs w (.slice (some ⟨b, off, none⟩) l cap) zs) (hn : n ≤ l) : Octs w (.slice (some ⟨b, off + n, none⟩) (l - n) (cap - n)) (zs.drop n) := h.back hn (.inl rfl)
/-- Two rows of octets in a row of the call's own. -/
theorem octRows_two {w : World} {u v : Value} {xs ys : List Nat} {t : TypeId} (hu : Octs w u xs) (hv : Octs w v ys) : OctRows (w.alloc (.cells #[u, v] t)) (.slice (some ⟨w.heap.size, 0, none⟩) 2 2) [xs, ys] := by
  refine ⟨by simp, _, _, rfl, .inr ⟨w.heap.size, 0, rfl, by simp, fun j hj => ?_⟩⟩
  have hc : ∀ i x, (#[u, v] : Array Value)[i]? = some x → (w.alloc (.cells #[u, v] t)).cell? ⟨w.heap.size, i, none⟩ = some x := fun i x h => by
    rw [cell_of_row _ _ _ _ _ _ (heap_alloc_new w _)]; exact h
  match j, hj with
  | 0, _ => exact ⟨u, hc 0 u rfl, hu.alloc _⟩
  | 1, _ => exact ⟨v, hc 1 v rfl, hv.alloc _⟩
set_option maxRecDepth 20000 in
set_option maxHeartbeats 1000000 in
theorem octets7 (K : Nat → Prop) (w : World) (p : Nat) (L : Loc) (S : St) (J : JS) (h : IsJ JHead K w p L S J) (hn1 : 4 ≤ J.n) (hn2 : J.n ≤ 400) (hfit : J.fr + J.n ≤ S.n) (hpl : J.place < J.n) (hl : S.left ≠ 0) :
    Calls Tryd.prog 30 #[.pointer (some ⟨p, 0, none⟩)] w fun x w' => ∃ v, x = .returned (.tuple #[v, .int .i64 0]) ∧ Octs w' v (secsN (ringF S.see J.fr J.n J.place) 0 J.n) ∧ IsJ JHead K w' p L S.spent J ∧ Kept K w w' := by
  have H : Hid (IsJ JHead K w p L S J) := h
  obtain ⟨c0, c1, c2, c3, -⟩ := h.1.cell
  have HC : Hid (∀ w', Kept (fun k => K k ∨ k = p) w w' → w'.cell? ⟨p, 0, none⟩ = some (.pointer (some ⟨L.b, 0, none⟩)) ∧ w'.cell? ⟨p, 1, none⟩ = some (.int .i64 (J.fr : Nat)) ∧ w'.cell? ⟨p, 2, none⟩ = some (.int .i64 (J.n : Nat))) := fun w' hk =>
    ⟨(hk.cell (p := ⟨p, 0, none⟩) (.inr rfl)).trans c0, (hk.cell (p := ⟨p, 1, none⟩) (.inr rfl)).trans c1, (hk.cell (p := ⟨p, 2, none⟩) (.inr rfl)).trans c2⟩
  have HRD : Hid (Calls Tryd.prog 42 #[.pointer (some ⟨L.b, 0, none⟩), .int .i64 (J.fr : Nat), .int .i64 (J.n : Nat)] w.drew fun e w' => ∃ b off cap, e = .returned (.tuple #[.slice (some ⟨b, off, none⟩) (128 * J.n) cap, .int .i64 0]) ∧ Octs w' (.slice (some ⟨b, off, none⟩) (128 * J.n) cap) (secsN S.see J.fr J.n) ∧ IsDisk (fun k => K k ∨ k = p) w' L S.spent ∧ Kept (fun k => K k ∨ k = p) w.drew w') := by
    refine (read_ok h.2.1.drew J.fr J.n hfit hl).mono ?_
    rintro e w' ⟨v, e1, e2, e3, e4⟩
    obtain ⟨a, cap, rfl⟩ := e2.shape
    rw [secsN_length] at e1 e2
    obtain ⟨b, off, rfl, -, -⟩ := e2.addr (by omega)
    exact ⟨b, off, cap, e1, e2, e3, e4⟩
  have HRR : Hid ((secsN S.see J.fr J.n).drop (128 * J.place) ++ (secsN S.see J.fr J.n).take (128 * J.place) = secsN (ringF S.see J.fr J.n J.place) 0 J.n) := ring_read S.see J.fr J.n J.place hpl
  have HLN : Hid ((secsN S.see J.fr J.n).length = 128 * J.n) := secsN_length _ _ _
  generalize secsN (ringF S.see J.fr J.n J.place) 0 J.n = R at *
  generalize secsN S.see J.fr J.n = Z at *
  obtain ⟨T, hT⟩ : ∃ T, T = 128 * J.n := ⟨_, rfl⟩
  obtain ⟨D, hD⟩ : ∃ D, D = 128 * J.place := ⟨_, rfl⟩
  rw [← hT] at HRD HLN
  rw [← hD] at HRR
  have HDT : Hid (D < T ∧ T ≤ 51200) := by unfold Hid; omega
  have HW : Hid (((J.place : Nat) : Int) * 128 = (D : Nat) ∧ wrap64 ((D : Nat) : Int) = (D : Nat)) := ⟨by omega, by unfold wrap64; omega⟩
  clear h hn1 hn2 hfit hpl hl c0 c1 c2 hT hD c3
  go_enter Tryd.func30, Tryd.ntmps30
  go_wp2_with fail
  go_region_held3 (fun w' => w'.cell? ⟨p, 0, none⟩ = some (.pointer (some ⟨L.b, 0, none⟩)) ∧ w'.cell? ⟨p, 1, none⟩ = some (.int .i64 (J.fr : Nat)) ∧ w'.cell? ⟨p, 2, none⟩ = some (.int .i64 (J.n : Nat))) (first | exact HC.out _ (Kept.refl _ _).drew | exact HC.out _ (Kept.undrew hk1)) (first
    | (go_at_call 42; refine HRD.out.mono ?_; rintro e w1 ⟨b, off, cap, rfl, ho1, hd1, hk1⟩))
  have HJ1 : Hid (IsJ JHead K w1 p L S.spent J ∧ Kept K w w1) := ⟨⟨H.out.1.same ((Kept.undrew hk1).block p (.inr rfl)), hd1, H.out.2.2⟩, (Kept.undrew hk1).mono fun k hk => .inl hk⟩
  have HO1 : Hid (Octs w1 (.slice (some ⟨b, off, none⟩) T cap) Z) := ho1
  have hcap := ho1.capLe
  obtain ⟨-, -, -, c3, -⟩ := HJ1.out.1.1.cell
  clear ho1 hd1 hk1 HRD HC
  obtain ⟨e1, e2⟩ := HW.out
  obtain ⟨q1, q2⟩ := HDT.out
  have q3 : ((D : Nat) : Int) ≤ (T : Nat) := by omega
  have q4 : ((D : Nat) : Int) ≤ (cap : Nat) := by omega
  have q5 : (0 : Int) ≤ (D : Nat) := by omega
  have q6 : ((T : Nat) : Int) ≤ (cap : Nat) := by omega
  have q7 : (cap = D) = False := eq_false (by omega)
  have HCC : Hid (Calls Tryd.prog 43 #[.slice (some ⟨w1.heap.size, 0, none⟩) 2 2] (w1.alloc (.cells #[.slice (some ⟨b, off + D, none⟩) (T - D : Nat) (cap - D : Nat), .slice (some ⟨b, off, none⟩) D cap] 32)).drew fun e w' => ∃ v', e = .returned v' ∧ Octs w' v' R ∧ IsJ JHead K w' p L S.spent J ∧ Kept K w w') := by
    have o1 := HO1.out.backZ (n := D) (by omega)
    have o2 := HO1.out.cut (n := D) (by omega)
    have e : [Z.drop D, Z.take D].flatten = R := by rw [← HRR.out]; simp
    have hzl := HLN.out
    obtain ⟨_, a', cap', h1, h2⟩ := octRows_two (t := 32) o1 o2
    rcases h2 with h2 | ⟨b', off', h3, h4, h5⟩
    · cases h2
    · cases h1
      cases h3
      have hlen : [Z.drop D, Z.take D].flatten.length = T := by
        simp only [List.flatten_cons, List.flatten_nil, List.append_nil, List.length_append, List.length_drop, List.length_take]
        omega
      have hc := concat7_at w1.heap.size 0 2 [Z.drop D, Z.take D] (w1.alloc (.cells #[.slice (some ⟨b, off + D, none⟩) (T - D : Nat) (cap - D : Nat), .slice (some ⟨b, off, none⟩) D cap] 32)).drew h4 (by simp) h5 (by omega) (by omega)
      refine hc.mono ?_
      rintro x w' ⟨v', g1, g2, g3⟩
      have hb : Below w1.heap.size w1 w' := ((Below.refl _ w1).alloc (Nat.le_refl _) _).drew.trans (g3.mono (by simp))
      rw [e] at g2
      exact ⟨v', g1, g2, HJ1.out.1.belowH hb, HJ1.out.2.trans (Kept.ofBelow hb fun k hk => HJ1.out.1.2.1.kl k (.inl hk))⟩
  clear hcap q1 q2
  go_wp2_with fail
  rw [e2]
  go_region_held3 (fun _ => True) (exact trivial) (first
    | (go_at_call 43; refine HCC.out.mono ?_; rintro e w2 ⟨v', rfl, ho2, hj2, hk2⟩))
  go_wp2
  go_ret2
  exact ⟨v', rfl, ho2, hj2, hk2⟩
end Go.Proofs.YthhdkadjlddmkaaDoor

/- Contract of the journal's 'recall': the payloads that stand in the ring's octets. -/
namespace Go.Proofs.YthhdkadjlddmkaaDoor
open Go.RowKit
set_option linter.unusedVariables false

theorem Octs.keptAt {w w' : World} {K : Nat → Prop} {v : Value} {zs : List Nat} (h : Octs w v zs) (hk : Kept K w w') (hx : ∀ x, v.ownBlock = some x → K x) : Octs w' v zs := by
  obtain ⟨h1, h2, a, c, rfl, h4, h5, h6⟩ := h
  refine ⟨h1, h2, a, c, rfl, h4, h5, ?_⟩
  rcases h6 with h6 | ⟨y, rfl, h6⟩
  · exact .inl h6
  · refine .inr ⟨y, rfl, ?_⟩
    rcases h6 with h6 | ⟨bb, o, rfl, h7, h8⟩
    · exact .inl h6
    · right
      exact ⟨_, _, rfl, Nat.lt_of_lt_of_le h7 hk.size, fun j hj => (hk.cell (p := ⟨bb, o + j, none⟩) (hx bb rfl)).trans (h8 j hj)⟩
theorem Octs.ownLt {w : World} {a : Addr} {n c : Nat} {zs : List Nat} (h : Octs w (.slice (some a) n c) zs) (h0 : 0 < n) : a.block < w.heap.size := by
  obtain ⟨b, off, e, h1, -⟩ := h.addr h0
  cases e
  exact h1
/-- The state behind the payloads ps. -/
def JS.behind (J : JS) (ps : List (List Nat)) : JS := { J with count := ps.length, used := sumT ps, place := (J.place + sumT ps) % J.n }
theorem JS.behind_after (J : JS) (ps : List (List Nat)) (p : List Nat) : (J.behind ps).after (partsN p.length + 1) = J.behind (ps ++ [p]) := by
  unfold JS.behind JS.after
  simp only [JS.mk.injEq, true_and, List.length_append, List.length_cons, List.length_nil, sumT_app, sumT, Nat.mod_add_mod, Nat.add_zero, and_true]
  rw [Nat.add_assoc]
/-- Slices of octets, one behind the other; none lies in the block of the row itself. -/
def PayR (W : World) (lv : Value) (vs : List Value) (ps : List (List Nat)) : Prop :=
  vs.length = ps.length ∧ ∀ (i : Nat) (p : List Nat), ps[i]? = some p → ∃ u, vs[i]? = some u ∧ Octs W u p ∧ (∀ x, u.ownBlock = some x → lv.ownBlock ≠ some x ∧ x < W.heap.size)
def lenV : Value → Nat
  | .slice _ n _ => n
  | _ => 0
theorem Tryd.infoSl7 : (Tryd.prog.info? 32).map (fun i => (i.zero, i.size, i.bytes)) = some (some (.slice none 0 0), 1, 24) := by kernel_rfl
theorem Tryd.underSl7 : Tryd.prog.underlying 43 = some (.slice 32) := by kernel_rfl
theorem PayR.only {p : Nat} {W W' : World} {lv : Value} {vs : List Value} {ps : List (List Nat)} (h : PayR W lv vs ps) (hn : NoOct W p) (hk : Only p W W') : PayR W' lv vs ps := by
  refine ⟨h.1, fun i q hq => ?_⟩
  obtain ⟨u, h1, h2, h3⟩ := h.2 i q hq
  exact ⟨u, h1, h2.only hn hk, fun x hx => ⟨(h3 x hx).1, Nat.lt_of_lt_of_le (h3 x hx).2 hk.size⟩⟩
theorem PayR.below {W W' : World} {lv : Value} {vs : List Value} {ps : List (List Nat)} (h : PayR W lv vs ps) (hk : Below W.heap.size W W') : PayR W' lv vs ps := by
  refine ⟨h.1, fun i q hq => ?_⟩
  obtain ⟨u, h1, h2, h3⟩ := h.2 i q hq
  exact ⟨u, h1, h2.kept hk, fun x hx => ⟨(h3 x hx).1, Nat.lt_of_lt_of_le (h3 x hx).2 hk.size⟩⟩
/-- One more. -/
theorem PayR.snoc {W W' : World} {lv lv' u : Value} {vs : List Value} {ps : List (List Nat)} {p : List Nat} (h : PayR W lv vs ps) (hg : W.grownBy W' lv.ownBlock) (hat : lv'.ownBlock = lv.ownBlock ∨ lv'.ownBlock = some W.heap.size) (ho : Octs W u p) (hu : ∀ x, u.ownBlock = some x → lv.ownBlock ≠ some x ∧ x < W.heap.size) : PayR W' lv' (vs ++ [u]) (ps ++ [p]) := by
  have key : ∀ u p, Octs W u p → (∀ x, u.ownBlock = some x → lv.ownBlock ≠ some x ∧ x < W.heap.size) → Octs W' u p ∧ ∀ x, u.ownBlock = some x → lv'.ownBlock ≠ some x ∧ x < W'.heap.size := fun u p ho hu => by
    refine ⟨ho.keptAt (K := fun k => k < W.heap.size ∧ lv.ownBlock ≠ some k) ((Kept.refl _ W).grown hg fun k hk => hk) fun x hx => ⟨(hu x hx).2, (hu x hx).1⟩, fun x hx => ⟨fun e => ?_, Nat.lt_of_lt_of_le (hu x hx).2 hg.size⟩⟩
    rcases hat with h | h
    · exact (hu x hx).1 (h ▸ e)
    · have h1 := (hu x hx).2
      rw [h] at e
      simp only [Option.some.injEq] at e
      omega
  refine ⟨by rw [List.length_append, List.length_append, h.1]; rfl, fun i q hq => ?_⟩
  by_cases hi : i < ps.length
  · rw [List.getElem?_append_left hi] at hq
    obtain ⟨v, h1, h2, h3⟩ := h.2 i q hq
    obtain ⟨k1, k2⟩ := key v q h2 h3
    exact ⟨v, by rw [List.getElem?_append_left (by rw [h.1]; exact hi)]; exact h1, k1, k2⟩
  · rw [List.getElem?_append_right (by omega)] at hq
    have hi2 : i = ps.length := by
      have h1 := (List.getElem?_eq_some_iff.1 hq).1
      simp only [List.length_cons, List.length_nil] at h1
      omega
    subst hi2
    rw [Nat.sub_self] at hq
    simp only [List.getElem?_cons_zero, Option.some.injEq] at hq
    subst hq
    obtain ⟨k1, k2⟩ := key u _ ho hu
    exact ⟨u, by rw [← h.1, List.getElem?_append_right (Nat.le_refl _), Nat.sub_self]; rfl, k1, k2⟩
/-- What stands between rounds. -/
theorem IsJ.ofOnly {K : Nat → Prop} {w w' : World} {p : Nat} {L : Loc} {S : St} {J J' : JS} (h : IsJ JHead K w p L S J) (ho : Only p w w') (hh : JHead w' p L.b J') : IsJ JHead K w' p L S J' :=
  ⟨hh, h.2.1.same ho.size fun k hk hf => ho.heap hk fun e => h.2.1.nK k hf (.inr e), h.2.2⟩
theorem PayR.rows {W : World} {B : Nat} {lv : Value} {vs : List Value} {ps : List (List Nat)} (h : PayR W lv vs ps) (ho : W.ownsRow B 32 1 lv ps.length vs) (hl : ps.length ≤ 9223372036854775807) : OctRows W lv ps := by
  refine ⟨hl, ?_⟩
  rcases ho.2 with ⟨rfl, h0⟩ | ⟨g, cap, cur, rfl, h1, h2, h3, h4, h5, h6⟩
  · exact ⟨none, 0, by rw [h0], .inl (List.length_eq_zero_iff.1 h0)⟩
  · refine ⟨_, _, rfl, .inr ⟨g, 0, rfl, lt_of_heap h2, fun j hj => ?_⟩⟩
    obtain ⟨u, k1, k2, -⟩ := h.2 j ps[j] (List.getElem?_eq_getElem hj)
    refine ⟨u, ?_, by rw [List.getElem?_eq_getElem hj]; exact k2⟩
    rw [cell_of_row _ _ _ _ _ _ h2, Nat.zero_add]
    rw [← h6, List.getElem?_take_of_lt (by omega)] at k1
    rw [← Array.getElem?_toList]
    exact k1
theorem lenV_own {W : World} {B : Nat} {t : TypeId} {lv : Value} {n : Nat} {vs : List Value} (ho : W.ownsRow B t 1 lv n vs) : lenV lv = n := by
  rcases ho.2 with ⟨rfl, h0⟩ | ⟨g, cap, cur, rfl, -⟩
  · exact h0.symm
  · rfl
/-- One step of the scan. -/
theorem scan_none {e : Int} {f c : Nat} {s : List Nat} (h : joinS s e (c : Nat) = none) : scanL e (f + 1) c s = [] := by rw [scanL, h]
theorem scan_some {e : Int} {f c : Nat} {s q : List Nat} {k : Nat} (h : joinS s e (c : Nat) = some (q, k)) : scanL e (f + 1) c s = q :: scanL e f (c + 1) (s.drop (128 * k)) := by rw [scanL, h]
set_option maxRecDepth 20000 in
set_option maxHeartbeats 1000000 in
theorem recall7 (K : Nat → Prop) (w : World) (p : Nat) (L : Loc) (S : St) (J : JS) (v : Value) (all : List Nat) (h : IsJ JHead K w p L S J) (ho : Octs w v all) (hlen : all.length = 128 * J.n) (hn1 : 4 ≤ J.n) (hn2 : J.n ≤ 400) (hpl : J.place < J.n) (hc : J.count = 0) (hu : J.used = 0) (he : J.epoch ≤ 2147483648) (ht : StepsK K w) :
    Calls Tryd.prog 31 #[.pointer (some ⟨p, 0, none⟩), v] w fun x w' => ∃ lv, x = .returned lv ∧ OctRows w' lv (scanL (J.epoch : Nat) (J.n + 1) 0 all) ∧ IsJ JHead K w' p L S (J.behind (scanL (J.epoch : Nat) (J.n + 1) 0 all)) ∧ Only p w w' := by
  obtain ⟨a, cap, rfl⟩ := ho.shape
  have hcap := ho.capLe
  obtain ⟨T, hT⟩ : ∃ T, T = all.length := ⟨_, rfl⟩
  rw [← hT] at ho hcap hlen ⊢
  obtain ⟨bb, off, rfl, -, -⟩ := ho.addr (by omega)
  obtain ⟨ps, hps⟩ : ∃ ps, ps = scanL (J.epoch : Nat) (J.n + 1) 0 all := ⟨_, rfl⟩
  rw [← hps]
  have H : Hid (IsJ JHead K w p L S J) := h
  have HO : Hid (Octs w (.slice (some ⟨bb, off, none⟩) T cap) all) := ho
  have HT : Hid (StepsK K w) := ht
  have HNO : Hid (NoOct w p) := h.1.noOct
  have HKO : Hid (∀ W, Only p w W → Kept K w W) := fun W hW => Kept.mono hW fun k hk => ⟨h.2.1.kl k (.inl hk), fun e => h.2.2 (e ▸ hk)⟩
  have HB0 : Hid (JHead w p L.b (J.behind [])) := by
    have e : J.behind [] = J := by
      unfold JS.behind sumT
      cases J
      simp only at hc hu hpl
      subst hc hu
      simp [Nat.mod_eq_of_lt hpl]
    unfold Hid
    rw [e]; exact h.1
  have HN : Hid (T = 128 * J.n ∧ 4 ≤ J.n ∧ J.n ≤ 400 ∧ T = all.length ∧ T ≤ cap ∧ cap ≤ maxLen) := ⟨hlen, hn1, hn2, hT, hcap.1, hcap.2⟩
  have HP0 : Hid (ps = scanL (J.epoch : Nat) (J.n + 1) 0 all) := hps
  have HE : Hid (J.epoch ≤ 2147483648) := he
  have HPW : Hid (p < w.heap.size) := h.1.lt
  clear h ho ht hlen hn1 hn2 hT hcap hps hpl hc hu he
  go_enter Tryd.func31, Tryd.ntmps31
  go_wp2
  go_loopw [5] (fun lv wr => ∃ (ps1 rest : List (List Nat)) (vs : List Value) (f : Nat), ps = ps1 ++ rest ∧ Hid (scanL (J.epoch : Nat) f ps1.length (all.drop (128 * sumT ps1)) = rest) ∧ Hid (f + ps1.length = J.n + 1 ∧ sumT ps1 ≤ J.n ∧ 2 * ps1.length ≤ sumT ps1) ∧ Hid (wr.ownsRow w.heap.size 32 1 lv ps1.length vs) ∧ Hid (PayR wr lv vs ps1) ∧ Hid (JHead wr p L.b (J.behind ps1)) ∧ Hid (Only p w wr)) (fun lv _ => 500 - lenV lv)
  case atStart => exact ⟨[], ps, [], J.n + 1, rfl, HP0.out.symm, ⟨rfl, Nat.zero_le _, Nat.le_refl _⟩, World.ownsRow_nil _ _ _ _, ⟨rfl, fun i q h => by cases h⟩, HB0.out, Only.refl _ _⟩
  case round =>
    obtain ⟨ps1, rest, vs, f, hps, HSC, HF, HOW, HPR, HJH, HON⟩ := hrel
    obtain ⟨f, rfl⟩ : ∃ g, f = g + 1 := ⟨f - 1, by have := HF.out; have := HN.out; omega⟩
    obtain ⟨U, hU⟩ : ∃ U, U = sumT ps1 := ⟨_, rfl⟩
    obtain ⟨C, hC⟩ : ∃ C, C = ps1.length := ⟨_, rfl⟩
    obtain ⟨D, hD⟩ : ∃ D, D = 128 * U := ⟨_, rfl⟩
    have HUC : Hid (U = sumT ps1 ∧ C = ps1.length ∧ D = 128 * U) := ⟨hU, hC, hD⟩
    rw [← hU, ← hC, ← hD] at HSC
    rw [← hU, ← hC] at HF
    have hDT : D ≤ T := by have := HF.out; have := HN.out; omega
    have hTc := HN.out.2.2.2.2.1
    obtain ⟨y, hy⟩ : ∃ y, (if cap = D then (some ⟨bb, off, none⟩ : Option Addr) else some ⟨bb, off + D, none⟩) = some ⟨bb, y, none⟩ ∧ (y = off + D ∨ T = D) := by
      by_cases hcd : cap = D
      · exact ⟨off, by rw [if_pos hcd], .inr (by omega)⟩
      · exact ⟨off + D, by rw [if_neg hcd], .inl rfl⟩
    obtain ⟨hy1, hy2⟩ := hy
    have hlT : (all.drop D).length = T - D := by rw [List.length_drop, ← HN.out.2.2.2.1]
    have HOA : Hid (Octs wr (.slice (some ⟨bb, off, none⟩) T cap) all) := HO.out.only HNO.out HON.out
    have HOD : Hid (Octs wr (.slice (some ⟨bb, y, none⟩) (T - D) (cap - D)) (all.drop D)) := HOA.out.back hDT hy2
    have HKW : Hid (Kept K w wr) := HKO.out wr HON.out
    have HJN : Hid (Calls Tryd.prog 44 #[.slice (some ⟨bb, y, none⟩) (T - D) (cap - D), .int .i64 (J.epoch : Nat), .int .i64 (C : Nat)] wr.drew fun x w' => ∃ u, x = .returned (.tuple #[u, .int .i64 (joinK (joinS (all.drop D) (J.epoch : Nat) (C : Nat)) : Nat)]) ∧ Octs w' u (joinP (joinS (all.drop D) (J.epoch : Nat) (C : Nat))) ∧ Below wr.heap.size wr w' ∧ ∀ z n c, u = .slice (some z) n c → wr.heap.size ≤ z.block) := by
      have h1 := HF.out
      have h2 := HN.out
      have h3 := HE.out
      refine (join6_at (.slice (some ⟨bb, y, none⟩) (T - D) (cap - D)) (all.drop D) (J.epoch : Nat) (C : Nat) wr.drew HOD.out.drew (by omega) (HT.out wr.drew HKW.out.drew)).mono ?_
      rintro x w' ⟨u, e1, e2, e3, e4⟩
      exact ⟨u, e1, e2, ⟨e3.os, e3.tape, e3.output, e3.size, e3.block⟩, e4⟩
    have HCL : Hid (∀ W, Below wr.heap.size wr W → W.cell? ⟨p, 4, none⟩ = some (.int .i64 (U : Nat)) ∧ W.cell? ⟨p, 5, none⟩ = some (.int .i64 (J.epoch : Nat)) ∧ W.cell? ⟨p, 6, none⟩ = some (.int .i64 (C : Nat))) := fun W hW => by
      have h1 : JHead W p L.b (J.behind ps1) := HJH.out.same (hW.block p HJH.out.lt)
      obtain ⟨-, -, -, -, d4, d5, d6, -⟩ := h1.cell
      rw [hU, hC]
      exact ⟨d4, d5, d6⟩
    have e1 : ((U : Nat) : Int) * 128 = (D : Nat) := by omega
    have hD1 : D ≤ 51200 := by have := HN.out; omega
    have WR : Hid (wrap64 ((D : Nat) : Int) = (D : Nat) ∧ IntKind.i64.wrap ((D : Nat) : Int) = (D : Nat)) := ⟨wr_small (by omega), wr_kind (by omega)⟩
    have q3 : ((D : Nat) : Int) ≤ (T : Nat) := by omega
    have q5 : (0 : Int) ≤ (D : Nat) := by omega
    have q6 : ((T : Nat) : Int) ≤ (cap : Nat) := by omega
    cases hj : joinS (all.drop D) (J.epoch : Nat) (C : Nat) with
    | none =>
      rw [hj] at HJN
      have HR : Hid (ps = ps1) := by
        have h1 := HSC.out
        rw [scan_none hj] at h1
        unfold Hid
        rw [hps, ← h1, List.append_nil]
      have HJ2 : Hid (Calls Tryd.prog 44 #[.slice (some ⟨bb, y, none⟩) (T - D) (cap - D), .int .i64 (J.epoch : Nat), .int .i64 (C : Nat)] wr.drew fun x w' => ∃ u, x = .returned (.tuple #[u, .int .i64 0]) ∧ Below wr.heap.size wr w') := HJN.out.mono fun x w' ⟨u, g1, g2, g3, g4⟩ => ⟨u, g1, g3⟩
      clear hj HJN hDT hTc hy2 hlT hD1 hU hC hD hps
      obtain ⟨e2, e3⟩ := WR.out
      go_wp2_with fail
      go_region_held3 (fun w' => w'.cell? ⟨p, 4, none⟩ = some (.int .i64 (U : Nat)) ∧ w'.cell? ⟨p, 5, none⟩ = some (.int .i64 (J.epoch : Nat)) ∧ w'.cell? ⟨p, 6, none⟩ = some (.int .i64 (C : Nat))) (first | exact HCL.out _ (Below.refl _ _).drew | exact HCL.out _ hb1) (first
        | (go_at_call 44; refine HJ2.out.mono ?_; rintro e w1 ⟨u, rfl, hb1⟩))
      have HB1 : Hid (Below wr.heap.size wr w1) := hb1
      clear hb1 HJ2 HCL e2 e3
      go_wp2
      go_ret
      have hon1 : Only p w w1 := HON.out.trans (Only.ofBelow HB1.out)
      have hhd : JHead w1 p L.b (J.behind ps1) := HJH.out.same (HB1.out.block p HJH.out.lt)
      refine ⟨_, rfl, ?_, by rw [HR.out]; exact H.out.ofOnly hon1 hhd, hon1⟩
      rw [HR.out]
      exact (HPR.out.below HB1.out).rows (ownsRow_same HOW.out fun g hg => HB1.out.block g (HOW.out.lt g hg).2) (by have := HF.out; have := HN.out; have := HUC.out; omega)
    | some qk =>
      obtain ⟨q, k⟩ := qk
      rw [hj] at HJN
      obtain ⟨k1, k2, k3⟩ := joinS_k hj
      have HJ2 : Hid (Calls Tryd.prog 44 #[.slice (some ⟨bb, y, none⟩) (T - D) (cap - D), .int .i64 (J.epoch : Nat), .int .i64 (C : Nat)] wr.drew fun x w' => ∃ u, x = .returned (.tuple #[u, .int .i64 (k : Nat)]) ∧ Octs w' u q ∧ Below wr.heap.size wr w' ∧ ∀ z n c, u = .slice (some z) n c → wr.heap.size ≤ z.block) := HJN
      have HSU : Hid (sumT (ps1 ++ [q]) = U + k) := by unfold Hid; rw [sumT_app, ← hU, k1]; simp [sumT]
      have hroom : U + k ≤ J.n := by have := HN.out; omega
      have HNX : Hid (ps = (ps1 ++ [q]) ++ scanL (J.epoch : Nat) f (C + 1) ((all.drop D).drop (128 * k)) ∧ (all.drop D).drop (128 * k) = all.drop (128 * sumT (ps1 ++ [q])) ∧ (ps1 ++ [q]).length = C + 1) := by
        refine ⟨?_, ?_, by rw [List.length_append, ← hC]; rfl⟩
        · have h1 := HSC.out
          rw [scan_some hj] at h1
          rw [hps, ← h1, List.append_assoc]; rfl
        · rw [List.drop_drop, HSU.out, hD]
          congr 1
          omega
      have HK : Hid (2 ≤ k ∧ U + k ≤ J.n ∧ k = partsN q.length + 1) := ⟨(by have h9 : 1 ≤ partsN q.length := (by unfold partsN; omega); omega), hroom, k1⟩
      have HQ : Hid (0 < q.length) := k2.1
      have hk0 : ¬ ((k : Nat) : Int) = 0 := by omega
      have HPS : Hid (∀ W, IsJ JHead K W p L S (J.behind ps1) → Calls Tryd.prog 27 #[.pointer (some ⟨p, 0, none⟩), .int .i64 (k : Nat)] W fun x w' => (∃ v, x = .returned v) ∧ JHead w' p L.b (J.behind (ps1 ++ [q])) ∧ Only p W w') := fun W hW => by
        have h1 := HF.out
        have h2 := HN.out
        refine (pass7 K W p L S (J.behind ps1) k hW (Nat.mod_lt _ (by omega)) (by show J.n ≤ 4096; omega) ?_ ?_ ?_).mono ?_
        · show k ≤ J.n - sumT ps1; rw [← hU]; omega
        · show sumT ps1 ≤ J.n; rw [← hU]; omega
        · show ps1.length ≤ 100000; rw [← hC]; omega
        · rintro x w' ⟨g1, g2, -, g4⟩
          rw [k1, J.behind_after] at g2
          exact ⟨g1, g2.1, g4⟩
      clear hj HJN hDT hTc hy2 hlT hD1 hU hC hD k1 k2 k3 hroom hps
      obtain ⟨e2, e3⟩ := WR.out
      go_wp2_with fail
      go_region_held3 (fun w' => w'.cell? ⟨p, 4, none⟩ = some (.int .i64 (U : Nat)) ∧ w'.cell? ⟨p, 5, none⟩ = some (.int .i64 (J.epoch : Nat)) ∧ w'.cell? ⟨p, 6, none⟩ = some (.int .i64 (C : Nat))) (first | exact HCL.out _ (Below.refl _ _).drew | exact HCL.out _ hb1) (first
        | (go_at_call 44; refine HJ2.out.mono ?_; rintro e w1 ⟨u, rfl, ho1, hb1, hn1⟩))
      have HB1 : Hid (Below wr.heap.size wr w1) := hb1
      obtain ⟨ua, uc, hush⟩ := ho1.shape
      subst hush
      have HO1 : Hid (Octs w1 (.slice ua q.length uc) q) := ho1
      have HU1 : Hid (∀ x, (Value.slice ua q.length uc).ownBlock = some x → u5.ownBlock ≠ some x ∧ x < w1.heap.size) := fun x hx => by
        cases ua with
        | none => cases hx
        | some z =>
          have hz : z.block = x := by simpa [Value.ownBlock] using hx
          refine ⟨fun e => ?_, hz ▸ ho1.ownLt HQ.out⟩
          have h1 := (HOW.out.lt x e).2
          have h2 := hn1 z _ _ rfl
          omega
      have HON1 : Hid (Only p w w1) := HON.out.trans (Only.ofBelow hb1)
      have HOW1 : Hid (w1.ownsRow w.heap.size 32 1 u5 C vs) := by
        rw [HUC.out.2.1]
        exact ownsRow_same HOW.out fun g hg => hb1.block g (HOW.out.lt g hg).2
      have HPR1 : Hid (PayR w1 u5 vs ps1) := HPR.out.below hb1
      have HJH1 : Hid (JHead w1 p L.b (J.behind ps1)) := HJH.out.same (hb1.block p HJH.out.lt)
      have hsz1 : w.heap.size ≤ w1.heap.size := HON1.out.size
      have hc25 : C ≤ 450 := by have h1 := HF.out; have h2 := HN.out; omega
      clear ho1 hb1 hn1 HJ2 HCL e2 e3 HPR HJH HON HOW HOA HOD HKW q3 q5 q6
      obtain ⟨i0, hi, hz0, hz1, hz2⟩ := info_parts Tryd.infoSl7
      go_wp2_with (at_builtin; go_must (refine wpList_append_own_at _ rfl _ _ 43 rfl w.heap.size 32 i0 _ 1 24 Tryd.underSl7 hi hz0 hz1 hz2 rfl (by decide) u5 C vs rfl (HOW1.out.alloc _) _ 1 1 [.slice ua q.length uc] rfl rfl (cell_one_new _ _ _) ?c2 ?c3 ?c4 ?c5 ?_))
      case c2 => intro z hz; simp at hz; subst hz; rfl
      case c3 => unfold maxLen; omega
      case c4 => omega
      case c5 => simp; omega
      intro v7 W7 hown7 hg7 _ hat7
      have hoA := HO1.out.alloc (.cells #[.slice ua q.length uc] 32)
      have hbA : Below w1.heap.size w1 (w1.alloc (.cells #[.slice ua q.length uc] 32)) := (Below.refl _ w1).alloc (Nat.le_refl _) _
      have HPR7 : Hid (PayR W7 v7 (vs ++ [.slice ua q.length uc]) (ps1 ++ [q])) := (HPR1.out.below hbA).snoc hg7 (by rw [World.size_alloc]; exact hat7) hoA fun x hx => ⟨(HU1.out x hx).1, by have := (HU1.out x hx).2; simp; omega⟩
      have hrow : u5.ownBlock ≠ some p := fun e => by have := (HOW1.out.lt p e).1; have := HPW.out; omega
      have HON7 : Hid (Only p w W7) := Kept.trans HON1.out (Kept.trans (Kept.ofBelow hbA fun k hk => Nat.lt_of_lt_of_le hk.1 hsz1) ((Kept.refl _ _).grown hg7 fun k hk => ⟨by have := hk.1; simp; omega, fun e => by have h1 := (HOW1.out.lt k e).1; have h2 := hk.1; omega⟩))
      have HJH7 : Hid (JHead W7 p L.b (J.behind ps1)) := HJH1.out.same ((hg7.block p (by simp; have := HPW.out; omega) hrow.symm).trans (hbA.block p (by have := HPW.out; omega)))
      have HOW7 : Hid (W7.ownsRow w.heap.size 32 1 v7 (C + 1) (vs ++ [.slice ua q.length uc])) := hown7
      have HJ7 : Hid (IsJ JHead K W7 p L S (J.behind ps1)) := H.out.ofOnly HON7.out HJH7.out
      have HPS7 := HPS.out W7 HJ7.out
      have HPS8 : Hid (Calls Tryd.prog 27 #[.pointer (some ⟨p, 0, none⟩), .int .i64 (k : Nat)] W7 fun x w' => (∃ v, x = .returned v) ∧ JHead w' p L.b (J.behind (ps1 ++ [q])) ∧ Only p W7 w') := HPS7
      clear hown7 hg7 hat7 hoA hbA hrow HPS7 HPS
      go_wp2_with fail
      refine HPS8.out.mono ?_
      rintro x W8 ⟨⟨vx, rfl⟩, hj8, hk8⟩
      have HN8 : Hid (NoOct W7 p) := HJ7.out.1.noOct
      have HJH8 : Hid (JHead W8 p L.b (J.behind (ps1 ++ [q]))) := hj8
      have HON8 : Hid (Only p w W8) := HON7.out.trans hk8
      have HPR8 : Hid (PayR W8 v7 (vs ++ [.slice ua q.length uc]) (ps1 ++ [q])) := HPR7.out.only HN8.out hk8
      have HOW8 : Hid (W8.ownsRow w.heap.size 32 1 v7 (ps1 ++ [q]).length (vs ++ [.slice ua q.length uc])) := by
        rw [HNX.out.2.2]
        exact ownsRow_same HOW7.out fun g hg => hk8.heap (HOW7.out.lt g hg).2 fun e => by have h1 := (HOW7.out.lt g hg).1; have h2 := HPW.out; omega
      have HSC8 : Hid (scanL (J.epoch : Nat) f (ps1 ++ [q]).length (all.drop (128 * sumT (ps1 ++ [q]))) = scanL (J.epoch : Nat) f (C + 1) ((all.drop D).drop (128 * k))) := by
        unfold Hid
        rw [HNX.out.2.2, ← HNX.out.2.1]
      have HF8 : Hid (f + (ps1 ++ [q]).length = J.n + 1 ∧ sumT (ps1 ++ [q]) ≤ J.n ∧ 2 * (ps1 ++ [q]).length ≤ sumT (ps1 ++ [q])) := by
        unfold Hid
        rw [HNX.out.2.2, HSU.out]
        have h1 := HF.out
        have h2 := HK.out
        exact ⟨by omega, by omega, by omega⟩
      clear hj8 hk8 HPS8
      go_wp2
      go_roundw
      case rel => exact ⟨ps1 ++ [q], _, vs ++ [Value.slice ua q.length uc], f, HNX.out.1, HSC8, HF8, HOW8, HPR8, HJH8, HON8⟩
      case measure =>
        have h1 := lenV_own HOW8.out
        have h2 := lenV_own HOW1.out
        rw [HNX.out.2.2] at h1
        rw [h1, h2]
        omega
end Go.Proofs.YthhdkadjlddmkaaDoor

/- Contract of 'epochOf': what a sector tells where a part has its epoch. -/
namespace Go.Proofs.YthhdkadjlddmkaaDoor
open Go.RowKit
set_option linter.unusedVariables false

/-- Octets put together by '|', each behind what is there. -/
theorem or_i64 (x y k m : Nat) (hx : x < 2 ^ k) (hm : m = 2 ^ k * y) (hs : x + m < 9223372036854775808) : bits .or .i64 (x : Nat) (m : Nat) = ((x + m : Nat) : Int) := by
  show IntKind.i64.wrap ((BitVec.ofInt 64 ((x : Nat) : Int) ||| BitVec.ofInt 64 ((m : Nat) : Int)).toNat : Int) = _
  rw [BitVec.toNat_or, BitVec.ofInt_natCast, BitVec.ofInt_natCast, BitVec.toNat_ofNat, BitVec.toNat_ofNat, Nat.mod_eq_of_lt (by omega), Nat.mod_eq_of_lt (by omega), Nat.or_comm]
  subst hm
  rw [← Nat.two_pow_add_eq_or_of_lt hx, Nat.add_comm, IntKind.wrap_i64]
  omega
set_option maxRecDepth 20000 in
theorem epochOf7 (w : World) (v : Value) (zs : List Nat) (h : Octs w v zs) (hl : zs.length = 128) :
    Calls Tryd.prog 46 #[v] w fun x w' => x = .returned (.int .i64 (numAt zs 1)) ∧ ∃ m, w' = w.drewN m := by
  obtain ⟨a, cap, rfl⟩ := h.shape
  rw [hl] at h ⊢
  obtain ⟨b, off, rfl, hb, hat⟩ := h.addr (by decide)
  have hs := h.small
  obtain ⟨z0, z1, z2, z3, z4, r, rfl⟩ : ∃ z0 z1 z2 z3 z4 r, zs = z0 :: z1 :: z2 :: z3 :: z4 :: r := by
    match zs, hl with
    | z0 :: z1 :: z2 :: z3 :: z4 :: r, _ => exact ⟨z0, z1, z2, z3, z4, r, rfl⟩
  have c1 : w.cell? ⟨b, off + 1, none⟩ = some (.int .u8 (z1 : Nat)) := hat 1 (by simp)
  have c2 : w.cell? ⟨b, off + 2, none⟩ = some (.int .u8 (z2 : Nat)) := hat 2 (by simp)
  have c3 : w.cell? ⟨b, off + 3, none⟩ = some (.int .u8 (z3 : Nat)) := hat 3 (by simp)
  have c4 : w.cell? ⟨b, off + 4, none⟩ = some (.int .u8 (z4 : Nat)) := hat 4 (by simp)
  have b1 : z1 < 256 := hs z1 (by simp)
  have b2 : z2 < 256 := hs z2 (by simp)
  have b3 : z3 < 256 := hs z3 (by simp)
  have b4 : z4 < 256 := hs z4 (by simp)
  rw [numAt_cons z0 z1 z2 z3 z4 r b1 b2 b3 b4]
  clear h hl hat hs hb
  go_enter Tryd.func46, Tryd.ntmps46
  go_wp2_with fail
  go_quiet (fail)
  go_wp2
  go_ret
  refine ⟨?_, nq, rfl⟩
  have e1 : ((z2 : Nat) : Int) * 256 = ((z2 * 256 : Nat) : Int) := by omega
  have e2 : ((z3 : Nat) : Int) * 65536 = ((z3 * 65536 : Nat) : Int) := by omega
  have e3 : ((z4 : Nat) : Int) * 16777216 = ((z4 * 16777216 : Nat) : Int) := by omega
  rw [e1, e2, e3, or_i64 z1 z2 8 _ b1 (by omega) (by omega), or_i64 _ z3 16 _ (by omega) (by omega) (by omega), or_i64 _ z4 24 _ (by omega) (by omega) (by omega)]
  rw [show z1 + z2 * 256 + z3 * 65536 + z4 * 16777216 = z1 + 256 * z2 + 65536 * z3 + 16777216 * z4 by omega]
  rfl
end Go.Proofs.YthhdkadjlddmkaaDoor

/- Contract of the journal's 'unfinished': does one of the sectors tell the epoch? -/
namespace Go.Proofs.YthhdkadjlddmkaaDoor
open Go.RowKit Go.Shelf
set_option linter.unusedVariables false
attribute [local go_sem] Oper.semAt_some

def ufB (zs : List Nat) (e m : Nat) : Bool := (List.range m).any fun i => decide (numAt (secAt6 zs i) 1 = (e : Nat))
/-- Between two rounds: the answer's own box. -/
def ufI (m : Nat) (zs : List Nat) (e : Nat) (D1 : Nat → Prop) (pre : List Nat) (X : World) : Prop :=
  D1 = (fun k => k = m) ∧ (∃ q, Boxed X m 4 (.bool q)) ∧ ufB zs e pre.length = false
def ufIx (m : Nat) (zs : List Nat) (e M : Nat) (c : Code) (D1 : Nat → Prop) (pre : List Nat) (X : World) : Prop :=
  c = .ret ∧ D1 = (fun k => k = m) ∧ Boxed X m 4 (.bool true) ∧ ufB zs e M = true
theorem ufI_local (m : Nat) (zs : List Nat) (e : Nat) : Local (ufI m zs e) := by
  refine ⟨?_, ?_⟩
  · rintro D1 pre X ⟨rfl, ⟨q, b1⟩, h⟩ k rfl
    exact b1.lt
  · rintro D1 pre X X' ⟨rfl, ⟨q, b1⟩, h⟩ hk
    exact ⟨rfl, ⟨q, (hk.block _ rfl).trans b1⟩, h⟩
theorem ufIx_local (m : Nat) (zs : List Nat) (e M : Nat) (c : Code) : Local (ufIx m zs e M c) := by
  refine ⟨?_, ?_⟩
  · rintro D1 pre X ⟨-, rfl, b1, h⟩ k rfl
    exact b1.lt
  · rintro D1 pre X X' ⟨hc, rfl, b1, h⟩ hk
    exact ⟨hc, rfl, (hk.block _ rfl).trans b1, h⟩
theorem ufB_succ (zs : List Nat) (e k : Nat) : ufB zs e (k + 1) = (ufB zs e k || decide (numAt (secAt6 zs k) 1 = (e : Nat))) := by
  unfold ufB
  rw [List.range_succ, List.any_append]
  simp
theorem ufB_in {zs : List Nat} {e k M : Nat} (hk : k < M) (h : numAt (secAt6 zs k) 1 = (e : Nat)) : ufB zs e M = true :=
  List.any_eq_true.2 ⟨k, List.mem_range.2 hk, decide_eq_true h⟩

set_option maxRecDepth 20000 in
set_option maxHeartbeats 1000000 in
theorem unfinished7 (w : World) (p b : Nat) (J : JS) (v : Value) (zs : List Nat) (M : Nat) (h : JHead w p b J) (ho : Octs w v zs) (hl : zs.length = 128 * M) (hM : M ≤ 400) :
    Calls Tryd.prog 32 #[.pointer (some ⟨p, 0, none⟩), v] w fun x w' => x = .returned (.bool (ufB zs J.epoch M)) ∧ Below w.heap.size w w' := by
  obtain ⟨a, cap, rfl⟩ := ho.shape
  have hcap := ho.capLe
  obtain ⟨T, hT⟩ : ∃ T, T = zs.length := ⟨_, rfl⟩
  rw [← hT] at ho hcap ⊢
  obtain ⟨bb, off, ha⟩ : ∃ bb off, 0 < T → a = some ⟨bb, off, none⟩ := by
    by_cases h0 : 0 < T
    · obtain ⟨bb, off, h, -⟩ := ho.addr h0
      exact ⟨bb, off, fun _ => h⟩
    · exact ⟨0, 0, fun h => absurd h h0⟩
  have HO : Hid (Octs w (.slice a T cap) zs) := ho
  have HH : Hid (JHead w p b J) := h
  have HLE : Hid (T = zs.length ∧ T = 128 * M ∧ M ≤ 400) := ⟨hT, by omega, hM⟩
  have HCAP : Hid (T ≤ cap) := hcap.1
  clear ho hT hl hM h hcap
  refine (callsIn_wide (n := 6)).1 (callsIn_of_wp_marks (F := Fence.wide) (n := 6) Tryd.func32 rfl trivial ?_ rfl)
  simp only [Tryd.ntmps32, List.size_toArray, List.length_cons, List.length_nil, Nat.reduceAdd, Nat.reduceSub, Array.replicate_succ, Array.replicate_zero, List.push_toArray, List.append_toArray, List.nil_append, List.cons_append]
  gi_wp2_with fail
  refine ⟨trivial, callsIn_wide.2 ((chunk_v _ _ a T cap rfl 128 (by decide)).mono ?_)⟩
  rintro x V00 ⟨rfl, rfl⟩
  gi_wp2_with fail
  obtain ⟨V0, hV0⟩ : ∃ V0, V0 = (((w.alloc (.cells #[.pointer (some ⟨p, 0, none⟩)] 28)).alloc (.cells #[.bool false] 4)).alloc (.cells #[.slice a T cap] 32)).alloc (.cells #[.int .i64 128] 3) := ⟨_, rfl⟩
  rw [← hV0]
  have hsz0 : V0.heap.size = w.heap.size + 4 := by rw [hV0]; simp
  have hBw : Below w.heap.size w V0 := by rw [hV0]; exact ((((Below.refl _ w).alloc (Nat.le_refl _) _).alloc (by simp) _).alloc (by simp; omega) _).alloc (by simp; omega) _
  have x0 : Boxed V0 w.heap.size 28 (.pointer (some ⟨p, 0, none⟩)) := by rw [hV0]; exact (((Boxed.new w _ _).alloc _).alloc _).alloc _
  have x1 : Boxed V0 (w.heap.size + 1) 4 (.bool false) := by
    rw [hV0]
    have := ((Boxed.new (w.alloc (.cells #[.pointer (some ⟨p, 0, none⟩)] 28)) 4 (.bool false)).alloc (.cells #[.slice a T cap] 32)).alloc (.cells #[.int .i64 128] 3)
    rwa [World.size_alloc] at this
  have x2 : Boxed V0 (w.heap.size + 1 + 1) 32 (.slice a T cap) := by
    rw [hV0]
    have := (Boxed.new ((w.alloc (.cells #[.pointer (some ⟨p, 0, none⟩)] 28)).alloc (.cells #[.bool false] 4)) 32 (.slice a T cap)).alloc (.cells #[.int .i64 128] 3)
    rwa [World.size_alloc, World.size_alloc] at this
  have x3 : Boxed V0 (w.heap.size + 1 + 1 + 1) 3 (.int .i64 128) := by
    rw [hV0]
    have := Boxed.new (((w.alloc (.cells #[.pointer (some ⟨p, 0, none⟩)] 28)).alloc (.cells #[.bool false] 4)).alloc (.cells #[.slice a T cap] 32)) 3 (.int .i64 128)
    rwa [World.size_alloc, World.size_alloc, World.size_alloc] at this
  have HSZ : Hid (V0.heap.size = w.heap.size + 4) := hsz0
  have HBW : Hid (Below w.heap.size w V0) := hBw
  have HB0 : Hid (Boxed V0 w.heap.size 28 (.pointer (some ⟨p, 0, none⟩))) := x0
  have HCH : Hid (∀ k, 128 * k < T → k < M) := fun k hk => by have := HLE.out.2.1; omega
  have HCN : Hid (chunks 128 T = M) := by
    unfold Hid chunks
    have := HLE.out.2.1
    omega
  have HWS : Hid (p < w.heap.size) := HH.out.lt
  clear hV0 hsz0 hBw x0
  have I0 : ufI (w.heap.size + 1) zs J.epoch (fun k => k = w.heap.size + 1) [] V0 := ⟨rfl, ⟨_, x1⟩, rfl⟩
  refine wpIn_rangeSep (n := 6) (gf := 63) (lb := #[.pointer (some ⟨w.heap.size + 1 + 1, 0, none⟩), .pointer (some ⟨w.heap.size + 1 + 1 + 1, 0, none⟩)]) rfl (enters_of Tryd.func63 (by kernel_rfl) rfl)
    (chunk_seq (w.heap.size + 1 + 1) (w.heap.size + 1 + 1 + 1) bb off 128 T cap a (by decide) (by decide) (by have := HLE.out; omega) HCAP.out ha V0 (fun k => k < V0.heap.size ∧ k ≠ w.heap.size + 1) ⟨by have := HSZ.out; omega, by omega⟩ ⟨by have := HSZ.out; omega, by omega⟩ (fun k hk => hk.1) x2.cell x3.cell)
    (Kept.refl _ _) (fun k hk => hk.1) (fun _ => rfl) (ufI (w.heap.size + 1) zs J.epoch) (ufIx (w.heap.size + 1) zs J.epoch M) (ufI_local _ _ _) (ufIx_local _ _ _ _) (fun k => k = w.heap.size + 1) (fun k hk hd => hk.2 hd) I0 ?round ?done ?stop
  case round =>
    rintro l D1 pre x X hlw hnl hlo ⟨rfl, ⟨q, b1⟩, hpre⟩ ⟨rfl, hk2, hkR⟩
    unfold chunkV
    obtain rfl := ha (by omega)
    obtain ⟨k, hk⟩ : ∃ k, k = pre.length := ⟨_, rfl⟩
    rw [← hk] at hk2 hpre
    have hE : chunkLen 128 T k = 128 := by
      have h1 := HLE.out.2.1
      have h2 := HCH.out k hk2
      unfold chunkLen
      omega
    gi_wp2
    refine ⟨Below.refl _ _, fun V hVk hVs => ?_⟩
    rw [← hk, hE]
    have nlm : w.heap.size + 1 ≠ l := fun e => hnl e.symm
    have kR : Kept (fun k => k < V0.heap.size ∧ k ≠ w.heap.size + 1) V0 V := hkR.trans (hVk.mono fun k hk e => by have := hk.1; omega)
    have v1 : Boxed V (w.heap.size + 1) 4 (.bool q) := (hVk.block _ nlm).trans b1
    have c0 : V.cell? ⟨w.heap.size, 0, none⟩ = some (.pointer (some ⟨p, 0, none⟩)) := (kR.cell (p := ⟨w.heap.size, 0, none⟩) ⟨(show w.heap.size < V0.heap.size by have := HSZ.out; omega), (show w.heap.size ≠ w.heap.size + 1 by omega)⟩).trans HB0.out.cell
    have kw : Below w.heap.size w V := HBW.out.trans (kR.below fun k hk => ⟨by have := HSZ.out; omega, by omega⟩)
    have c5 : V.cell? ⟨p, 5, none⟩ = some (.int .i64 (J.epoch : Nat)) := (HH.out.same (kw.block p HWS.out)).cell.2.2.2.2.2.1
    have hoc : Octs V (.slice (some ⟨bb, off + 128 * k, none⟩) (chunkLen 128 T k) (chunkLen 128 T k)) (secAt6 zs k) := octs_chunk (HO.out.kept (kw.mono (Nat.le_refl _))) 128 k hk2
    rw [hE] at hoc
    have HEP := epochOf7 V.drew (.slice (some ⟨bb, off + 128 * k, none⟩) 128 128) (secAt6 zs k) hoc.drew (by rw [hoc.lenEq])
    have HEP1 : Hid (Calls Tryd.prog 46 #[.slice (some ⟨bb, off + 128 * k, none⟩) 128 128] V.drew fun x w' => x = .returned (.int .i64 (numAt (secAt6 zs k) 1)) ∧ ∃ m, w' = V.drew.drewN m) := HEP
    have HKM : Hid (k < M) := HCH.out k hk2
    have HPJ : Hid ((pre ++ [k]).length = k + 1) := by unfold Hid; rw [List.length_append, ← hk]; rfl
    have HV1 : Hid (Boxed V (w.heap.size + 1) 4 (.bool q)) := v1
    have HVX : Hid (V.heap.size = X.heap.size) := hVs
    have HX1 : Hid (w.heap.size + 1 < X.heap.size) := b1.lt
    have f1 := v1.frozen
    have c1 := v1.cell
    have hS0 : (fun w' : World => w'.cell? ⟨w.heap.size, 0, none⟩ = some (.pointer (some ⟨p, 0, none⟩)) ∧ w'.cell? ⟨p, 5, none⟩ = some (.int .i64 (J.epoch : Nat))) V.drew := ⟨c0, c5⟩
    have HPRE : Hid (ufB zs J.epoch k = false) := hpre
    clear hpre hk b1 hkR hVk hVs nlm kR kw hoc hE HEP v1
    gi_wp2
    refine wpIn_round_held (S := fun w' : World => w'.cell? ⟨w.heap.size, 0, none⟩ = some (.pointer (some ⟨p, 0, none⟩)) ∧ w'.cell? ⟨p, 5, none⟩ = some (.int .i64 (J.epoch : Nat))) (by kernel_rfl) (by kernel_rfl) (fun ⟨_, _, h⟩ => h) hS0 (fun hHeld => ?_)
    refine wpAnyH_take (i := 0) (v := .slice (some ⟨bb, off + 128 * k, none⟩) 128 128) rfl (by kernel_rfl) (by kernel_rfl) (by kernel_rfl) (fun _ _ _ h => h) (Or.inl ⟨by rfl, fun w' hSw => ?_⟩) hHeld ?_
    · dsimp only at hSw
      go_simp
    simp only [Act.put, List.getElem_toArray, List.getElem_cons_zero, List.setIfInBounds_toArray, List.set_cons_zero, List.set_cons_succ]
    refine wpAnyH_take (i := 2) (v := .pointer (some ⟨p, 0, none⟩)) rfl (by kernel_rfl) (by kernel_rfl) (by kernel_rfl) (fun _ _ _ h => h) (Or.inl ⟨by rfl, fun w' hSw => ?_⟩) hHeld ?_
    · dsimp only at hSw
      go_simp
    simp only [Act.put, List.getElem_toArray, List.getElem_cons_succ, List.getElem_cons_zero, List.setIfInBounds_toArray, List.set_cons_zero, List.set_cons_succ]
    refine wpAnyH_take (i := 3) (v := .pointer (some ⟨p, 0, none⟩)) rfl (by kernel_rfl) (by kernel_rfl) (by kernel_rfl) (fun _ _ _ h => h) (Or.inl ⟨by rfl, fun w' hSw => ?_⟩) hHeld ?_
    · dsimp only at hSw
      go_simp
    simp only [Act.put, List.getElem_toArray, List.getElem_cons_succ, List.getElem_cons_zero, List.setIfInBounds_toArray, List.set_cons_zero, List.set_cons_succ]
    refine wpAnyH_take (i := 4) (v := .pointer (some ⟨p, 5, none⟩)) rfl (by kernel_rfl) (by kernel_rfl) (by kernel_rfl) (fun _ _ _ h => h) (Or.inl ⟨by rfl, fun w' hSw => ?_⟩) hHeld ?_
    · dsimp only at hSw
      go_simp
    simp only [Act.put, List.getElem_toArray, List.getElem_cons_succ, List.getElem_cons_zero, List.setIfInBounds_toArray, List.set_cons_zero, List.set_cons_succ]
    refine wpAnyH_take (i := 5) (v := .int .i64 (J.epoch : Nat)) rfl (by kernel_rfl) (by kernel_rfl) (by kernel_rfl) (fun _ _ _ h => h) (Or.inl ⟨by rfl, fun w' hSw => ?_⟩) hHeld ?_
    · dsimp only at hSw
      go_simp
    simp only [Act.put, List.getElem_toArray, List.getElem_cons_succ, List.getElem_cons_zero, List.setIfInBounds_toArray, List.set_cons_zero, List.set_cons_succ]
    refine wpAnyH_ready (rs := [1]) (by kernel_rfl) (by simp) ?_
    refine AllReadyH.cons rfl (fun K hK => ?_) AllReadyH.nil
    simp only [List.getElem_toArray, List.getElem_cons_succ, List.getElem_cons_zero]
    go_simp
    refine HEP1.out.mono ?_
    rintro x W1 ⟨rfl, nd, hW1⟩
    have hS1 : (fun w' : World => w'.cell? ⟨w.heap.size, 0, none⟩ = some (.pointer (some ⟨p, 0, none⟩)) ∧ w'.cell? ⟨p, 5, none⟩ = some (.int .i64 (J.epoch : Nat))) W1 := by rw [hW1]; exact hS0
    have HD1 : Hid (W1.heap = V.heap ∧ W1.os = V.os ∧ W1.tape = V.tape ∧ W1.output = V.output) := by rw [hW1]; exact ⟨rfl, rfl, rfl, rfl⟩
    clear hW1
    have HBX1 : Hid (Boxed W1 (w.heap.size + 1) 4 (.bool q)) := by
      show W1.heap[w.heap.size + 1]? = _
      rw [HD1.out.1]; exact HV1.out
    have HKV : Hid (Kept (fun k => k < X.heap.size ∧ ¬ k = w.heap.size + 1) V W1) := ⟨HD1.out.2.1, HD1.out.2.2.1, HD1.out.2.2.2, by rw [HD1.out.1]; exact Nat.le_refl _, fun k _ => by rw [HD1.out.1]⟩
    have g1 := HBX1.out.cell
    have h1 := HBX1.out.frozen
    clear f1 c1
    refine hK.out _ _ hS1 (fun hHeld => ?_)
    by_cases hq : numAt (secAt6 zs k) 1 = (J.epoch : Nat)
    · have HUF : Hid (ufB zs J.epoch M = true) := ufB_in HKM.out hq
      generalize numAt (secAt6 zs k) 1 = t at *
      refine wpAnyH_take (i := 6) (v := .bool true) rfl (by kernel_rfl) (by kernel_rfl) (by kernel_rfl) (fun _ _ _ h => h) (Or.inl ⟨by rfl, fun w' hSw => ?_⟩) hHeld ?_
      · dsimp only at hSw
        go_simp
      simp only [Act.put, List.getElem_toArray, List.getElem_cons_succ, List.getElem_cons_zero, List.setIfInBounds_toArray, List.set_cons_zero, List.set_cons_succ]
      refine wpAnyH_done (by kernel_rfl) ?_ _
      have HFIN : Hid (Kept (fun k => k < X.heap.size ∧ ¬ k = w.heap.size + 1) V (W1.setCell ⟨w.heap.size + 1, 0, none⟩ (.bool true)) ∧ ∃ D', ufIx (w.heap.size + 1) zs J.epoch M .ret D' (pre ++ [k]) (W1.setCell ⟨w.heap.size + 1, 0, none⟩ (.bool true)) ∧ Grew (fun k => k = w.heap.size + 1) D' X.heap.size) :=
        ⟨HKV.out.setCell (p := ⟨w.heap.size + 1, 0, none⟩) (fun hk => hk.2 rfl) _, _, ⟨rfl, rfl, HBX1.out.set _, HUF.out⟩, Grew.refl _ _⟩
      clear hq hHeld hS0 hS1 c0 c5 HEP1
      gi_wp2
      exact HFIN.out
    · have HUF : Hid (ufB zs J.epoch (k + 1) = false) := by unfold Hid; rw [ufB_succ, HPRE.out, decide_eq_false hq]; rfl
      generalize numAt (secAt6 zs k) 1 = t at *
      refine wpAnyH_take (i := 6) (v := .bool false) rfl (by kernel_rfl) (by kernel_rfl) (by kernel_rfl) (fun _ _ _ h => h) (Or.inl ⟨by rfl, fun w' hSw => ?_⟩) hHeld ?_
      · dsimp only at hSw
        go_simp
      simp only [Act.put, List.getElem_toArray, List.getElem_cons_succ, List.getElem_cons_zero, List.setIfInBounds_toArray, List.set_cons_zero, List.set_cons_succ]
      refine wpAnyH_done (by kernel_rfl) ?_ _
      have HFIN : Hid (Kept (fun k => k < X.heap.size ∧ ¬ k = w.heap.size + 1) V W1 ∧ ∃ D', ufI (w.heap.size + 1) zs J.epoch D' (pre ++ [k]) W1 ∧ Grew (fun k => k = w.heap.size + 1) D' X.heap.size) :=
        ⟨HKV.out, _, ⟨rfl, ⟨q, HBX1.out⟩, by rw [HPJ.out]; exact HUF.out⟩, Grew.refl _ _⟩
      clear hq hHeld hS0 hS1 c0 c5 HEP1
      gi_wp2
      exact HFIN.out
  case done =>
    rintro dd D1 xs X hdd hnd hS ⟨rfl, ⟨q, b1⟩, hq⟩ hgr hsp hK
    have hxl : xs.length = M := by rw [hS, List.length_range]; exact HCN.out
    rw [hxl] at hq
    have hX0 := b1.lt
    have hddX : dd < X.heap.size := lt_of_heap hK
    have hBX : Below w.heap.size w X := HBW.out.trans (hsp.below fun k hk => ⟨by have := HSZ.out; omega, by omega⟩)
    obtain ⟨Y, hY⟩ : ∃ Y, Y = X.setCell ⟨w.heap.size + 1, 0, none⟩ (.bool false) := ⟨_, rfl⟩
    have y1 : Boxed Y (w.heap.size + 1) 4 (.bool false) := by rw [hY]; exact b1.set _
    have hYk : Y.heap[dd]? = some (.deferred (some [])) := by rw [hY]; exact (Below.heap_setCell _ _ _ _ (show dd ≠ w.heap.size + 1 from hnd)).trans hK
    have HBY : Hid (Below w.heap.size w (Y.putObj dd (.deferred none))) := by
      unfold Hid
      have h1 : Below w.heap.size w Y := by rw [hY]; exact hBX.setCell (p := ⟨w.heap.size + 1, 0, none⟩) (by show w.heap.size ≤ w.heap.size + 1; omega) _
      exact h1.grown (grownBy_putObj' Y dd _) h1.size (fun k e => by cases e; have := HSZ.out; omega)
    have HP6 : Hid ((Y.putObj dd (.deferred none)).cell? ⟨w.heap.size + 1, 0, none⟩ = some (.bool false)) :=
      (World.cell?_of_block (w := Y) (a := ⟨w.heap.size + 1, 0, none⟩) (World.putObj_heap_other (show w.heap.size + 1 ≠ dd from fun e => hnd e.symm))).trans y1.cell
    have HY : Hid (Y = X.setCell ⟨w.heap.size + 1, 0, none⟩ (.bool false)) := hY
    have HQ : Hid (ufB zs J.epoch M = false) := hq
    have c1 := b1.cell
    have f1 := b1.frozen
    clear hq b1 hsp hgr hK hY y1 hBX hS hnd hxl hX0
    gi_wp2
    rw [← HY.out]
    refine ⟨by simp, .inl ⟨_, _, rfl, run_takeDeferred hYk, ?_⟩⟩
    have hl6 : (loadVar 4 ⟨w.heap.size + 1, 0, none⟩).run Tryd.prog (Y.putObj dd (.deferred none)) = .ok (.bool false) (Y.putObj dd (.deferred none)) := by simp [loadVar, isAgg, run_underlying Tryd.underlying4, Result.andThen, HP6.out, go_sem]
    exact ⟨_, results_cell1 rfl rfl hl6, by rw [HQ.out], HBY.out⟩
  case stop =>
    rintro dd c D1 pre X hdd hnd _ ⟨rfl, rfl, b1, hq⟩ hgr hsp hK
    have hddX : dd < X.heap.size := lt_of_heap hK
    have hBX : Below w.heap.size w X := HBW.out.trans (hsp.below fun k hk => ⟨by have := HSZ.out; omega, by omega⟩)
    have HBY : Hid (Below w.heap.size w (X.putObj dd (.deferred none))) := hBX.grown (grownBy_putObj' X dd _) hBX.size (fun k e => by cases e; have := HSZ.out; omega)
    have HP6 : Hid ((X.putObj dd (.deferred none)).cell? ⟨w.heap.size + 1, 0, none⟩ = some (.bool true)) :=
      (World.cell?_of_block (w := X) (a := ⟨w.heap.size + 1, 0, none⟩) (World.putObj_heap_other (show w.heap.size + 1 ≠ dd from fun e => hnd e.symm))).trans b1.cell
    have HQ : Hid (ufB zs J.epoch M = true) := hq
    clear hq b1 hsp hgr hBX hnd
    gi_wp2
    refine ⟨by simp, .inl ⟨_, _, rfl, run_takeDeferred hK, ?_⟩⟩
    have hl6 : (loadVar 4 ⟨w.heap.size + 1, 0, none⟩).run Tryd.prog (X.putObj dd (.deferred none)) = .ok (.bool true) (X.putObj dd (.deferred none)) := by simp [loadVar, isAgg, run_underlying Tryd.underlying4, Result.andThen, HP6.out, go_sem]
    exact ⟨_, results_cell1 rfl rfl hl6, by rw [HQ.out], HBY.out⟩
end Go.Proofs.YthhdkadjlddmkaaDoor

/- Contract of the journal's 'New', of arguments that are right. -/
namespace Go.Proofs.YthhdkadjlddmkaaDoor
open Go.RowKit
set_option linter.unusedVariables false

theorem there7 {K : Nat → Prop} {w : World} {L : Loc} {S : St} (h : IsDisk K w L S) (fr m : Nat) (h1 : 4 ≤ m) (h2 : m ≤ 4096) (h3 : fr + m ≤ S.n) :
    Calls Tryd.prog 22 #[.pointer (some ⟨L.b, 0, none⟩), .int .i64 (fr : Nat), .int .i64 (m : Nat)] w fun x w' => x = .returned (.bool true) ∧ w' = w := by
  have H : Hid (IsDisk K w L S) := h
  have hn := h.ok.n2
  have E1 : Hid (wi7 (m : Nat) 4 4096 = true) := decide_eq_true (by omega)
  have e2 : ((S.n : Nat) : Int) - (m : Nat) = ((S.n - m : Nat) : Int) := by omega
  have e3 : wrap64 ((S.n - m : Nat) : Int) = ((S.n - m : Nat) : Int) := by unfold wrap64; omega
  have E4 : Hid (wi7 (fr : Nat) 0 ((S.n - m : Nat) : Int) = true) := decide_eq_true (by omega)
  generalize S.n - m = d at *
  clear h h1 h2 h3 hn
  go_enter Tryd.func22, Tryd.ntmps22
  go_wp2_with fail
  refine (within7 _ _ _ _).mono ?_
  rintro x w1 ⟨rfl, rfl⟩
  rw [E1.out]
  go_wp2_with fail
  refine (size_v H.out).mono ?_
  rintro x w2 ⟨rfl, rfl⟩
  go_wp2_with fail
  refine (within7 _ _ _ _).mono ?_
  rintro x w1 ⟨rfl, rfl⟩
  rw [E4.out]
  go_wp2
  go_ret
  exact ⟨rfl, rfl⟩
theorem IsDisk.join7 {K : Nat → Prop} {w : World} {L : Loc} {S : St} (h : IsDisk K w L S) (o : Obj) : IsDisk (fun k => K k ∨ k = w.heap.size) (w.alloc o) L S := by
  refine (h.alloc o).turnK (fun k hf hk => ?_) (fun k hk => ?_)
  · rcases hk with hk | hk
    · exact h.nK k hf hk
    · have := h.lt k hf; omega
  · rcases hk with hk | hk
    · have := h.kl k hk; simp; omega
    · simp; omega
theorem new7 (K : Nat → Prop) (w : World) (L : Loc) (S : St) (fr m e start : Nat) (h : IsDisk K w L S) (h1 : 4 ≤ m) (h2 : m ≤ 4096) (h3 : fr + m ≤ S.n) (h4 : 1 ≤ e) (h5 : e ≤ 2147483648) (h6 : start < m) :
    Calls Tryd.prog 9 #[.pointer (some ⟨L.b, 0, none⟩), .int .i64 (fr : Nat), .int .i64 (m : Nat), .int .i64 (e : Nat), .int .i64 (start : Nat)] w fun x w' => x = .returned (.tuple #[.pointer (some ⟨w.heap.size, 0, none⟩), .int .i64 0]) ∧ IsJ JHead K w' w.heap.size L S (JS.fresh fr m e start) ∧ Below w.heap.size w w' := by
  have H : Hid (IsDisk K w L S) := h
  have T : Hid (Calls Tryd.prog 22 #[.pointer (some ⟨L.b, 0, none⟩), .int .i64 (fr : Nat), .int .i64 (m : Nat)] w fun x w' => x = .returned (.bool true) ∧ w' = w) := there7 h fr m h1 h2 h3
  have E1 : Hid (wi7 (e : Nat) 1 2147483648 = true) := decide_eq_true (by omega)
  have e2 : ((m : Nat) : Int) - 1 = ((m - 1 : Nat) : Int) := by omega
  have e3 : wrap64 ((m - 1 : Nat) : Int) = ((m - 1 : Nat) : Int) := by unfold wrap64; omega
  have E4 : Hid (wi7 (start : Nat) 0 ((m - 1 : Nat) : Int) = true) := decide_eq_true (by omega)
  have HN : Hid (IsJ JHead K (w.alloc (.cells #[.pointer (some ⟨L.b, 0, none⟩), .int .i64 (fr : Nat), .int .i64 (m : Nat), .int .i64 (start : Nat), .int .i64 0, .int .i64 (e : Nat), .int .i64 0, .bool false, .bool false] 64)) w.heap.size L S (JS.fresh fr m e start)) := by
    refine ⟨heap_alloc_new w _, h.join7 _, fun hk => ?_⟩
    have := h.kl _ hk
    omega
  generalize m - 1 = d at *
  clear h h1 h2 h3 h4 h5 h6
  go_enter Tryd.func9, Tryd.ntmps9
  go_wp2_with fail
  refine T.out.mono ?_
  rintro x w1 ⟨rfl, rfl⟩
  go_wp2_with fail
  refine (within7 _ _ _ _).mono ?_
  rintro x w1 ⟨rfl, rfl⟩
  rw [E1.out]
  go_wp2_with fail
  refine (within7 _ _ _ _).mono ?_
  rintro x w1 ⟨rfl, rfl⟩
  rw [E4.out]
  go_wp2
  go_ret2
  exact ⟨rfl, HN.out, (Below.refl _ _).alloc (Nat.le_refl _) _⟩
end Go.Proofs.YthhdkadjlddmkaaDoor

/- How an argument that is a slice of slices of integers reads. -/
namespace Go.Proofs.YthhdkadjlddmkaaDoor
open Go.ChangeShapes Go.WideShapes Go.ChangeAt Go.RowKit Go.Deep
set_option linter.unusedVariables false

/-- What a walk is told of a slice of slices of integers that came in. -/
def IsRows (k : IntKind) (w : World) (a : Option Addr) (len cap : Nat) (A : Nat → Option Addr) (L C : Nat → Nat) (Z : Nat → List Int) : Prop :=
  (a = none ∧ len = 0 ∧ cap = 0) ∨
  ∃ x, a = some x ∧ len ≤ cap ∧ cap ≤ maxLen ∧ ∀ r, r < cap → w.cell? (x.add r) = some (.slice (A r) (L r) (C r)) ∧ IsRow k w (A r) (L r) (C r) (Z r)

theorem open_rows {H : Type} {enc : TypeId × Value → H} {P : Program} {w : World} {base : Nat} {held : Bool} {t e q : TypeId} {k : IntKind} {a : Option Addr} {len cap : Nat} {d : DataW H} {p : List MemPlace}
    (ht : P.underlying t = some (.slice e)) (he : P.underlying e = some (.slice q)) (hq : P.underlying q = some (.int k)) (ce : P.cellsOf e = 1) (cq : P.cellsOf q = 1)
    (h : DataW.Trod enc P w base (fun _ => true) held t (.slice a len cap) d p) : ∃ A L C Z, IsRows k w a len cap A L C Z := by
  obtain ⟨fuel, hf⟩ := h
  rcases open_int_rows ht he hq ce cq hf with ⟨hcs, _⟩ | ⟨x, l, c, A, L, C, Z, hcs, _, hl, hm, _, hall⟩
  · simp [Value.cells] at hcs
    obtain ⟨rfl, rfl, rfl⟩ := hcs
    exact ⟨fun _ => none, fun _ => 0, fun _ => 0, fun _ => [], .inl ⟨rfl, rfl, rfl⟩⟩
  · simp [Value.cells] at hcs
    obtain ⟨rfl, rfl, rfl⟩ := hcs
    refine ⟨A, L, C, Z, .inr ⟨x, rfl, hl, hm, fun r hr => ?_⟩⟩
    obtain ⟨h1, h2, h3, h4, h5, h6, h7⟩ := hall r hr
    refine ⟨h1, ?_⟩
    cases hA : A r with
    | none =>
      have := h6 hA
      exact .inl ⟨rfl, by omega, by omega, List.eq_nil_of_length_eq_zero (by omega)⟩
    | some a' =>
      obtain ⟨_, h8⟩ := h7 a' hA
      exact .inr ⟨a', rfl, h2, h3, h4, fun i hi => h8 i (by omega), h5⟩

theorem OctRows.kept {w w' : World} {v : Value} {zss : List (List Nat)} (h : OctRows w v zss) (hb : Below w.heap.size w w') : OctRows w' v zss := by
  obtain ⟨hl, a, cap, rfl, h0 | ⟨b, off, rfl, hlt, hr⟩⟩ := h
  · exact ⟨hl, a, cap, rfl, .inl h0⟩
  · refine ⟨hl, _, cap, rfl, .inr ⟨b, off, rfl, Nat.lt_of_lt_of_le hlt hb.size, fun j hj => ?_⟩⟩
    obtain ⟨u, hc, ho⟩ := hr j hj
    exact ⟨u, (hb.cell (p := ⟨b, off + j, none⟩) hlt).trans hc, ho.kept hb⟩
/-- Slices of octets that came in. -/
theorem OctRows.ofRows {w : World} {a : Option Addr} {len cap : Nat} {A : Nat → Option Addr} {L C : Nat → Nat} {Z : Nat → List Int} (h : IsRows .u8 w a len cap A L C Z) :
    OctRows w (.slice a len cap) ((List.range len).map fun r => ((Z r).take (L r)).map Int.toNat) := by
  have hlen : ((List.range len).map fun r => ((Z r).take (L r)).map Int.toNat).length = len := by simp
  rcases h with ⟨rfl, rfl, rfl⟩ | ⟨x, rfl, hl, hm, hall⟩
  · exact ⟨by simp, none, 0, rfl, .inl rfl⟩
  · unfold maxLen at hm
    refine ⟨by omega, _, cap, by rw [hlen], ?_⟩
    by_cases h0 : len = 0
    · left; subst h0; rfl
    · right
      obtain ⟨b, off, spot⟩ := x
      have hspot : spot = none := by simpa [Addr.add] using World.cell?_spot (hall 0 (by omega)).1
      subst hspot
      have e : ∀ j, (⟨b, off, none⟩ : Addr).add j = ⟨b, off + j, none⟩ := fun j => by unfold Addr.add; split <;> simp_all
      refine ⟨b, off, rfl, cell_lt (by have := (hall 0 (by omega)).1; rw [e] at this; exact this), fun j hj => ?_⟩
      rw [hlen] at hj
      obtain ⟨h1, h2⟩ := hall j (by omega)
      rw [e] at h1
      refine ⟨_, h1, ?_⟩
      rw [List.getElem?_map, List.getElem?_range hj]
      exact Octs.ofRow h2
end Go.Proofs.YthhdkadjlddmkaaDoor

/- Contract of the journal's 'Open'; the bundle of contracts holds of the landed code. -/
namespace Go.Proofs.YthhdkadjlddmkaaDoor
open Go.RowKit
set_option linter.unusedVariables false

theorem ufB_dirty (f : Nat → Sec) (fr n start u e : Nat) : ufB (restO f fr n start u) e (n - u) = dirtyR f fr n start u e := by
  unfold ufB dirtyR
  rw [Bool.eq_iff_iff, List.any_eq_true, List.any_eq_true]
  constructor
  · rintro ⟨i, h1, h2⟩
    rw [restO_at f fr n start u i (List.mem_range.1 h1)] at h2
    exact ⟨i, h1, h2⟩
  · rintro ⟨i, h1, h2⟩
    refine ⟨i, h1, ?_⟩
    rw [restO_at f fr n start u i (List.mem_range.1 h1)]
    exact h2
theorem sumT_scan (e : Int) : ∀ (f c : Nat) (s : List Nat), 128 * sumT (scanL e f c s) ≤ s.length
  | 0, _, _ => Nat.zero_le _
  | f + 1, c, s => by
    cases h : joinS s e (c : Nat) with
    | none => rw [scan_none h]; exact Nat.zero_le _
    | some qk =>
      obtain ⟨q, k⟩ := qk
      obtain ⟨k1, -, k3⟩ := joinS_k h
      have := sumT_scan e f (c + 1) (s.drop (128 * k))
      rw [List.length_drop] at this
      rw [scan_some h, sumT, ← k1]
      omega
theorem ring_rest (f : Nat → Sec) (fr n start u : Nat) (h : u ≤ n) : (secsN (ringF f fr n start) 0 n).drop (128 * u) = restO f fr n start u := by
  obtain ⟨k, rfl⟩ : ∃ k, n = u + k := ⟨n - u, by omega⟩
  unfold restO
  rw [secsN_add, List.drop_append_of_le_length (by rw [secsN_length]; omega), List.drop_of_length_le (by rw [secsN_length]; omega), List.nil_append, Nat.zero_add, Nat.add_sub_cancel_left]
/-- A row of octets is none of a journal's cells. -/
theorem OctRows.onlyJ {p b : Nat} {J : JS} {w w' : World} {v : Value} {zss : List (List Nat)} (h : OctRows w v zss) (hj : JHead w p b J) (hk : Only p w w') : OctRows w' v zss := by
  obtain ⟨hl, a, cap, rfl, h⟩ := h
  refine ⟨hl, a, cap, rfl, ?_⟩
  by_cases h0 : zss = []
  · exact .inl h0
  rcases h with h | ⟨g, off, rfl, hg, hc⟩
  · exact absurd h h0
  · have hne : g ≠ p := fun e => by
      subst e
      obtain ⟨u, h1, h2⟩ := hc 0 (by cases zss with | nil => exact absurd rfl h0 | cons _ _ => simp)
      obtain ⟨ua, uc, rfl⟩ := h2.shape
      rw [cell_of_row w g _ _ _ _ hj] at h1
      generalize off + 0 = i at h1
      match i, h1 with
      | 0, e => simp at e
      | 1, e => simp at e
      | 2, e => simp at e
      | 3, e => simp at e
      | 4, e => simp at e
      | 5, e => simp at e
      | 6, e => simp at e
      | 7, e => simp at e
      | 8, e => simp at e
      | i + 9, e => simp at e
    refine .inr ⟨g, off, rfl, Nat.lt_of_lt_of_le hg hk.size, fun j hjl => ?_⟩
    obtain ⟨u, h1, h2⟩ := hc j hjl
    exact ⟨u, (hk.cell (q := ⟨g, off + j, none⟩) hg hne).trans h1, h2.only hj.noOct hk⟩
set_option maxRecDepth 20000 in
set_option maxHeartbeats 1000000 in
theorem open7 (K : Nat → Prop) (w : World) (L : Loc) (S : St) (fr m e start : Nat) (h : IsDisk K w L S) (h1 : 4 ≤ m) (h2 : m ≤ 400) (h3 : fr + m ≤ S.n) (h4 : 1 ≤ e) (h5 : e ≤ 2147483648) (h6 : start < m) (hl : S.left ≠ 0) (ht : StepsK K w) :
    Calls Tryd.prog 16 #[.pointer (some ⟨L.b, 0, none⟩), .int .i64 (fr : Nat), .int .i64 (m : Nat), .int .i64 (e : Nat), .int .i64 (start : Nat)] w fun x w' => ∃ p lv, x = .returned (.tuple #[.pointer (some ⟨p, 0, none⟩), lv, .int .i64 0]) ∧ IsJ JHead K w' p L S.spent (openJ S.see fr m e start) ∧ w.heap.size ≤ p ∧ OctRows w' lv (openPs S.see fr m e start) ∧ Kept K w w' := by
  have HNEW : Hid (Calls Tryd.prog 9 #[.pointer (some ⟨L.b, 0, none⟩), .int .i64 (fr : Nat), .int .i64 (m : Nat), .int .i64 (e : Nat), .int .i64 (start : Nat)] w fun x w' => x = .returned (.tuple #[.pointer (some ⟨w.heap.size, 0, none⟩), .int .i64 0]) ∧ IsJ JHead K w' w.heap.size L S (JS.fresh fr m e start) ∧ Below w.heap.size w w') := new7 K w L S fr m e start h h1 (by omega) h3 h4 h5 h6
  have HKL : Hid (∀ k, K k → k < w.heap.size) := h.kl
  have HT : Hid (StepsK K w) := ht
  obtain ⟨all, hall⟩ : ∃ all, all = secsN (ringF S.see fr m start) 0 m := ⟨_, rfl⟩
  obtain ⟨ps, hps⟩ : ∃ ps, ps = openPs S.see fr m e start := ⟨_, rfl⟩
  have hps2 : scanL (e : Nat) (m + 1) 0 all = ps := by rw [hps, hall]; rfl
  have hal : all.length = 128 * m := by rw [hall]; exact secsN_length _ _ _
  obtain ⟨U, hU⟩ : ∃ U, U = sumT ps := ⟨_, rfl⟩
  have hUm : U ≤ m := by
    have := sumT_scan (e : Nat) (m + 1) 0 all
    rw [hps2, ← hU, hal] at this
    omega
  have HOCT : Hid (∀ W, IsJ JHead K W w.heap.size L S (JS.fresh fr m e start) → Calls Tryd.prog 30 #[.pointer (some ⟨w.heap.size, 0, none⟩)] W fun x w' => ∃ v, x = .returned (.tuple #[v, .int .i64 0]) ∧ Octs w' v all ∧ IsJ JHead K w' w.heap.size L S.spent (JS.fresh fr m e start) ∧ Kept K W w') := fun W hW => by
    rw [hall]
    exact octets7 K W w.heap.size L S (JS.fresh fr m e start) hW h1 h2 h3 h6 hl
  have HREC : Hid (∀ W v, IsJ JHead K W w.heap.size L S.spent (JS.fresh fr m e start) → Octs W v all → StepsK K W → Calls Tryd.prog 31 #[.pointer (some ⟨w.heap.size, 0, none⟩), v] W fun x w' => ∃ lv, x = .returned lv ∧ OctRows w' lv ps ∧ IsJ JHead K w' w.heap.size L S.spent ((JS.fresh fr m e start).behind ps) ∧ Only w.heap.size W w') := fun W v hW hv hT => by
    rw [← hps2]
    exact recall7 K W w.heap.size L S.spent (JS.fresh fr m e start) v all hW hv hal h1 h2 h6 rfl rfl h5 hT
  have hrest : all.drop (128 * U) = restO S.see fr m start U := by rw [hall]; exact ring_rest S.see fr m start U hUm
  have HOPJ : Hid (∀ d, d = ufB (all.drop (128 * U)) e (m - U) → openJ S.see fr m e start = { (JS.fresh fr m e start).behind ps with dirty := d }) := fun d hd => by
    rw [hd, hrest, ufB_dirty, hU, hps]
    rfl
  obtain ⟨dty, hdty⟩ : ∃ d, d = ufB (all.drop (128 * U)) e (m - U) := ⟨_, rfl⟩
  have HUF : Hid (∀ W v, JHead W w.heap.size L.b ((JS.fresh fr m e start).behind ps) → Octs W v (all.drop (128 * U)) → Calls Tryd.prog 32 #[.pointer (some ⟨w.heap.size, 0, none⟩), v] W fun x w' => x = .returned (.bool dty) ∧ Below W.heap.size W w') := fun W v hW hv => by
    rw [hdty]
    exact unfinished7 W w.heap.size L.b _ v (all.drop (128 * U)) (m - U) hW hv (by rw [List.length_drop, hal]; omega) (by omega)
  have HDTY : Hid (dty = ufB (all.drop (128 * U)) e (m - U)) := hdty
  obtain ⟨D, hD⟩ : ∃ D, D = 128 * U := ⟨_, rfl⟩
  obtain ⟨T, hT⟩ : ∃ T, T = 128 * m := ⟨_, rfl⟩
  rw [← hD] at HUF
  have HNM : Hid (U ≤ m ∧ m ≤ 400 ∧ D = 128 * U ∧ T = 128 * m ∧ all.length = T ∧ 4 ≤ m) := ⟨hUm, h2, hD, hT, by rw [hal, hT], h1⟩
  have HUS : Hid (sumT ps = U) := hU.symm
  have HPS : Hid (openPs S.see fr m e start = ps) := hps.symm
  clear h h1 h2 h3 h4 h5 h6 hl ht hall hps hps2 hal hU hUm hrest hdty hD hT
  go_enter Tryd.func16, Tryd.ntmps16
  go_wp2_with fail
  refine HNEW.out.mono ?_
  rintro x w1 ⟨rfl, hj1, hb1⟩
  have HJ1 : Hid (IsJ JHead K w1 w.heap.size L S (JS.fresh fr m e start)) := hj1
  have HK1 : Hid (Kept K w w1) := Kept.ofBelow hb1 HKL.out
  clear hj1 hb1 HNEW
  go_wp2_with fail
  refine (HOCT.out w1 HJ1.out).mono ?_
  rintro x w2 ⟨v, rfl, ho2, hj2, hk2⟩
  obtain ⟨va, vc, hvs⟩ := ho2.shape
  subst hvs
  rw [HNM.out.2.2.2.2.1] at ho2 ⊢
  obtain ⟨bb, off, rfl, -, -⟩ := ho2.addr (by have := HNM.out; omega)
  have HO2 : Hid (Octs w2 (.slice (some ⟨bb, off, none⟩) T vc) all) := ho2
  have HJ2 : Hid (IsJ JHead K w2 w.heap.size L S.spent (JS.fresh fr m e start)) := hj2
  have HK2 : Hid (Kept K w w2) := HK1.out.trans hk2
  have hcap := ho2.capLe
  clear ho2 hj2 hk2 HOCT HJ1 HK1
  go_wp2_with fail
  refine (HREC.out w2 _ HJ2.out HO2.out (HT.out.kept HK2.out)).mono ?_
  rintro x w3 ⟨lv, rfl, hr3, hj3, hon3⟩
  have HR3 : Hid (OctRows w3 lv ps) := hr3
  have HJ3 : Hid (IsJ JHead K w3 w.heap.size L S.spent ((JS.fresh fr m e start).behind ps)) := hj3
  have HK3 : Hid (Kept K w w3) := HK2.out.trans (Kept.mono hon3 fun k hk => ⟨HJ2.out.2.1.kl k (.inl hk), fun e => HJ2.out.2.2 (e ▸ hk)⟩)
  have HO3 : Hid (Octs w3 (.slice (some ⟨bb, off, none⟩) T vc) all) := HO2.out.only HJ2.out.1.noOct hon3
  have HON3 : Hid (Only w.heap.size w2 w3) := hon3
  have hTc : T ≤ vc := hcap.1
  have hDT : D ≤ T := by have := HNM.out; omega
  obtain ⟨y, hy⟩ : ∃ y, (if vc = D then (some ⟨bb, off, none⟩ : Option Addr) else some ⟨bb, off + D, none⟩) = some ⟨bb, y, none⟩ ∧ (y = off + D ∨ T = D) := by
    by_cases hcd : vc = D
    · exact ⟨off, by rw [if_pos hcd], .inr (by omega)⟩
    · exact ⟨off + D, by rw [if_neg hcd], .inl rfl⟩
  obtain ⟨hy1, hy2⟩ := hy
  have HUW : Hid (Calls Tryd.prog 32 #[.pointer (some ⟨w.heap.size, 0, none⟩), .slice (some ⟨bb, y, none⟩) (T - D) (vc - D)] w3 fun x w' => x = .returned (.bool dty) ∧ Below w3.heap.size w3 w') := HUF.out w3 _ HJ3.out.1 (HO3.out.back hDT hy2)
  obtain ⟨-, -, -, -, c4, -⟩ := HJ3.out.1.cell
  have c4' : w3.cell? ⟨w.heap.size, 4, none⟩ = some (.int .i64 (U : Nat)) := by rw [← HUS.out]; exact c4
  have e1 : ((U : Nat) : Int) * 128 = (D : Nat) := by have := HNM.out; omega
  have e2 : wrap64 ((D : Nat) : Int) = (D : Nat) := wr_small (by have := HNM.out; omega)
  have q3 : ((D : Nat) : Int) ≤ (T : Nat) := by omega
  have q5 : (0 : Int) ≤ (D : Nat) := by omega
  have q6 : ((T : Nat) : Int) ≤ (vc : Nat) := by omega
  clear hr3 hj3 hon3 hTc hDT hy2 hcap c4 HREC HUF
  go_wp2_with fail
  refine HUW.out.mono ?_
  rintro x w4 ⟨rfl, hb4⟩
  have hj4 : IsJ JHead K w4 w.heap.size L S.spent ((JS.fresh fr m e start).behind ps) := HJ3.out.belowH hb4
  have hk4 : Kept K w w4 := HK3.out.trans (Kept.ofBelow hb4 fun k hk => HJ3.out.2.1.kl k (.inl hk))
  have hr4 : OctRows w4 lv ps := HR3.out.kept hb4
  have f7 := hj4.1.frozen 7
  have hj5 := hj4.set7 (J' := { (JS.fresh fr m e start).behind ps with dirty := dty }) 7 (.bool dty) (hj4.1.set _ _ rfl)
  have HJ5 : Hid (IsJ JHead K (w4.setCell ⟨w.heap.size, 7, none⟩ (.bool dty)) w.heap.size L S.spent (openJ S.see fr m e start)) := by
    unfold Hid
    rw [HOPJ.out dty HDTY.out]
    exact hj5
  have HK5 : Hid (Kept K w (w4.setCell ⟨w.heap.size, 7, none⟩ (.bool dty))) := hk4.setCell (p := ⟨w.heap.size, 7, none⟩) hj4.2.2 _
  have HR5 : Hid (OctRows (w4.setCell ⟨w.heap.size, 7, none⟩ (.bool dty)) lv ps) := hr4.onlyJ hj4.1 ((Only.refl _ _).setCell _ _)
  have c7 : ∃ q, w4.cell? ⟨w.heap.size, 7, none⟩ = some q := ⟨_, hj4.1.cell.2.2.2.2.2.2.2.1⟩
  obtain ⟨q7, c7⟩ := c7
  clear hb4 hj4 hk4 hr4 hj5 HUW c4' e1 e2 q3 q5 q6 hy1
  go_wp2
  go_ret3
  rw [HPS.out]
  exact ⟨_, _, rfl, HJ5.out, Nat.le_refl _, HR5.out, HK5.out⟩
/-- What the laws of layer 7 ask of the package holds of the landed code. -/
def jops : JOps where
  Head := JHead
  same h hb := h.same hb
  lt h := h.lt
  noOct h := h.noOct
  new K w L S fr m e start h h1 h2 h3 h4 h5 h6 := (new7 K w L S fr m e start h h1 h2 h3 h4 h5 h6).mono fun x w' ⟨g1, g2, g3⟩ => ⟨w.heap.size, g1, g2, Nat.le_refl _, g3⟩
  append K w p L S J v zs h hk ho _ hm1 hm2 ht := append7 K w p L S J v zs h hk ho hm1 hm2 ht
  used := used7
  free := free7
  place := place7
  epoch := epoch7
  fits := fits7
  reset := reset7
  open_ := open7
end Go.Proofs.YthhdkadjlddmkaaDoor
