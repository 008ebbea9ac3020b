/- The keys of heap 1 of a list, one by one; what all pages are. -/
import Derived.Test.YtjhkcdnfnmglhaaGreatDoorMathDiff12
namespace Go.Proofs.YtjhkcdnfnmglhaaGreatDoor
open Go.RowKit
set_option linter.unusedVariables false
set_option maxRecDepth 20000

def keyT (l : List Md) (y : Nat) : List Ky := wantK (wantH 1) (l.take y)
theorem keyT_step {l : List Md} {y : Nat} {m : Md} (h : l[y]? = some m) : keyT l (y + 1) = keyT l y ++ (if wantH 1 m.k then [m.k] else []) := by
  obtain ⟨hk, e⟩ := List.getElem?_eq_some_iff.1 h
  unfold keyT
  rw [List.take_succ_eq_append_getElem hk, e, wantK_append]
  congr 1
  unfold wantK
  cases hw : wantH 1 m.k <;> simp [hw]
theorem keyT_all {l : List Md} {n : Nat} (h : n = l.length) : keyT l n = wantK (wantH 1) l := by subst h; unfold keyT; rw [List.take_length]
theorem keyT_len (l : List Md) (y : Nat) : (keyT l y).length ≤ y := by
  unfold keyT wantK
  refine Nat.le_trans (List.length_filter_le _ _) ?_
  rw [List.length_map, List.length_take]
  omega
theorem keyT_ki {l : List Md} {y : Nat} (h : ∀ m ∈ l, KI m.k) {x : Ky} (hx : x ∈ keyT l y) : KI x := by
  obtain ⟨m, h2, rfl⟩ := List.mem_map.1 (List.mem_filter.1 hx).1
  exact h m (List.mem_of_mem_take h2)
theorem all_kis {O : Ov} {t : Int} (h : OvOk O t) (ht : t ≤ 900000000000000) : ∀ m ∈ allO O, KI m.k := fun m hm => by
  rw [← committed_commit h] at hm
  have := committed_mdi (commit_ok12 h) ht m hm
  exact ⟨this.1, this.2.1⟩
theorem all_short {O : Ov} {t : Int} (h : OvOk O t) {N : Nat} (hN : totalO O ≤ N) : (allO O).length ≤ N := by
  rw [← committed_commit h]
  exact Nat.le_trans (committed_len (commit_ok12 h)) (Nat.le_trans (total_commit h) hN)
theorem cells4z {w : World} {X : Nat} {a b c d : Value} {T : TypeId} (h : w.heap[X]? = some (.cells #[a, b, c, d] T (0, 0))) : w.cell? ⟨X, 0, none⟩ = some a ∧ w.cell? ⟨X, 1, none⟩ = some b ∧ w.cell? ⟨X, 2, none⟩ = some c ∧ w.cell? ⟨X, 3, none⟩ = some d := by
  refine ⟨?_, ?_, ?_, ?_⟩ <;> simp [World.cell?, h]
end Go.Proofs.YtjhkcdnfnmglhaaGreatDoor
