/- What is committed, with the difference applied, is what is committed behind a Commit: in plain lists. -/
import Derived.Test.YtjhkcdnfnmglhaaGreatDoorMathNever12
namespace Go.Proofs.YtjhkcdnfnmglhaaGreatDoor
open Go.RowKit
set_option linter.unusedVariables false
set_option maxRecDepth 20000

theorem committed_commit {O : Ov} {t : Int} (h : OvOk O t) : committedO (commitO O) = allO O := apply_self (rise_apply _ _ _)
theorem all_commit {O : Ov} {t : Int} (h : OvOk O t) : allO (commitO O) = allO O := apply_self (rise_apply _ _ _)
theorem gone_mem {O : Ov} {x : Ky} : x ∈ goneL O ↔ x ∈ O.was.map Md.k ∧ findM O.fresh x = none := by
  unfold goneL
  rw [List.mem_filter]
  cases findM O.fresh x <;> simp
theorem diff_is {O : Ov} {t : Int} (h : OvOk O t) : applyM (committedO O) O.fresh (goneL O) = allO O := by
  refine rise_ext (rise_apply _ _ _) (rise_apply _ _ _) fun x => ?_
  show findM (applyM (committedO O) O.fresh (goneL O)) x = findM (applyM O.base O.fresh []) x
  rw [find_apply h.rf.nodup, find_or h.rf]
  by_cases hf : x ∈ O.fresh.map Md.k
  · rw [if_pos hf]
    obtain ⟨e, he⟩ := find_in hf
    rw [he, Option.some_or]
  · rw [if_neg hf]
    have hn := find_out.2 hf
    rw [hn, Option.none_or]
    by_cases hg : x ∈ goneL O
    · rw [if_pos hg]
      obtain ⟨e, he⟩ := find_in (gone_mem.1 hg).1
      rcases base_was h x with hb | hw
      · rw [hb]
      · rw [hw] at he; cases he
    · rw [if_neg hg, committed_find h]
      have hw : findM O.was x = none := find_out.2 fun hw => hg (gone_mem.2 ⟨hw, hn⟩)
      rw [hw, Option.none_or]
theorem has_mdi {O : Ov} {t : Int} (h : OvOk O t) (ht : t ≤ 900000000000000) {c : Nat} {m : Md} (hh : O.Has c m.k (m.s, m.g, m.u)) : MdI m := by
  obtain ⟨a, b1, b2, b3⟩ := h.fit _ _ _ hh
  obtain ⟨s, hs, hn⟩ := h.range _ _ _ hh
  have h2 := h.n2
  have h3 := isR_iff.1 a
  simp only [Md.k] at h3 hs b1 b2 b3
  unfold MdI I64
  omega
theorem part_mdi {O : Ov} {t : Int} (h : OvOk O t) (ht : t ≤ 900000000000000) {c : Nat} (hc : c < 3) (hr : Rise (O.part c)) : ∀ m ∈ O.part c, MdI m := fun m hm => has_mdi h ht (in_has h hc hr hm)
theorem committed_mdi {O : Ov} {t : Int} (h : OvOk O t) (ht : t ≤ 900000000000000) : ∀ m ∈ committedO O, MdI m := fun m hm => by
  obtain ⟨c, -, hh⟩ := committed_has h hm
  exact has_mdi h ht hh
theorem committed_len {O : Ov} {t : Int} (h : OvOk O t) : (committedO O).length ≤ totalO O := by
  have hp := apply_perm h.rb h.rw fun k => by
    cases hk : findM O.base k with
    | none => exact .inl rfl
    | some e => exact .inr (h.apart k e hk).1
  have h1 := hp.length_eq
  rw [List.length_append] at h1
  show (applyM O.base O.was []).length ≤ O.base.length + O.was.length + O.fresh.length
  omega
end Go.Proofs.YtjhkcdnfnmglhaaGreatDoor
