/- Keys (a heap and a page) in plain numbers: their order, sorted lists of them, rows of pages. -/
import Derived.WalkKit
namespace Go.Proofs.YtfclhehpbniapaaDoor

open Go Go.RowKit
/-- A key: its heap, its page. -/
abbrev Ky := Int × Int
/-- In order. -/
abbrev KLt (a b : Ky) : Prop := a.1 < b.1 ∨ a.1 = b.1 ∧ a.2 < b.2
theorem KLt.irr (a : Ky) : ¬ KLt a a := by unfold KLt; omega
theorem KLt.trans {a b c : Ky} (h : KLt a b) (k : KLt b c) : KLt a c := by unfold KLt at *; omega
theorem KLt.ne {a b : Ky} (h : KLt a b) : a ≠ b := by rintro rfl; exact KLt.irr _ h
theorem klt_or {a b : Ky} (h : a ≠ b) (k : ¬ KLt a b) : KLt b a := by
  obtain ⟨a1, a2⟩ := a
  obtain ⟨b1, b2⟩ := b
  unfold KLt at *
  simp only [ne_eq, Prod.mk.injEq] at *
  omega

/-- Where a key belongs. -/
def pos (x : Ky) : List Ky → Nat
  | [] => 0
  | y :: r => if KLt y x then pos x r + 1 else 0
theorem pos_le (x : Ky) : ∀ l : List Ky, pos x l ≤ l.length
  | [] => Nat.le_refl _
  | y :: r => by
    unfold pos
    split
    · have := pos_le x r; simp; omega
    · exact Nat.zero_le _
theorem pos_below (x : Ky) : ∀ (l : List Ky) (j : Nat) (h : j < l.length), j < pos x l → KLt l[j] x
  | [], _, h, _ => by simp at h
  | y :: r, 0, h, hj => by
    unfold pos at hj
    split at hj
    · assumption
    · omega
  | y :: r, j + 1, h, hj => by
    unfold pos at hj
    split at hj
    · exact pos_below x r j (by simpa using h) (by omega)
    · omega
theorem pos_stop (x : Ky) : ∀ (l : List Ky) (h : pos x l < l.length), ¬ KLt l[pos x l] x
  | [], h => by simp at h
  | y :: r, h => by
    by_cases hy : KLt y x
    · have e : pos x (y :: r) = pos x r + 1 := by rw [pos, if_pos hy]
      have h' : pos x r < r.length := by rw [e] at h; simpa using h
      have := pos_stop x r h'
      simpa [e] using this
    · have e : pos x (y :: r) = 0 := by rw [pos, if_neg hy]
      simpa [e] using hy
/-- The first that isn't below it: there. -/
theorem pos_is {x : Ky} {l : List Ky} {k : Nat} (hk : k ≤ l.length) (hb : ∀ j (h : j < l.length), j < k → KLt l[j] x) (hs : ∀ h : k < l.length, ¬ KLt l[k] x) : pos x l = k := by
  have h1 := pos_le x l
  rcases Nat.lt_trichotomy (pos x l) k with h | h | h
  · exact absurd (hb _ (by omega) h) (pos_stop x l (by omega))
  · exact h
  · exact absurd (pos_below x l k (by omega) h) (hs (by omega))

/-- A key put where it belongs, unless it is there. -/
def ins (out : List Ky) (x : Ky) : List Ky := if x ∈ out then out else out.take (pos x out) ++ x :: out.drop (pos x out)
def sortR (ks : List Ky) : List Ky := ks.foldl ins []
theorem sortR_snoc (ks : List Ky) (x : Ky) : sortR (ks ++ [x]) = ins (sortR ks) x := by simp [sortR, List.foldl_append]
theorem ins_mem {out : List Ky} {x k : Ky} : k ∈ ins out x ↔ k = x ∨ k ∈ out := by
  unfold ins
  split
  · rename_i h
    exact ⟨.inr, fun e => e.elim (fun e => e ▸ h) id⟩
  · constructor
    · intro h
      rw [List.mem_append, List.mem_cons] at h
      rcases h with h | h | h
      · exact .inr (List.mem_of_mem_take h)
      · exact .inl h
      · exact .inr (List.mem_of_mem_drop h)
    · intro h
      rw [List.mem_append, List.mem_cons]
      rcases h with h | h
      · exact .inr (.inl h)
      · rw [← List.take_append_drop (pos x out) out, List.mem_append] at h
        rcases h with h | h
        · exact .inl h
        · exact .inr (.inr h)
theorem ins_len {out : List Ky} {x : Ky} : (ins out x).length = if x ∈ out then out.length else out.length + 1 := by
  have := pos_le x out
  unfold ins
  split
  · rfl
  · simp [List.length_append, List.length_take, List.length_drop]; omega
theorem ins_rises {out : List Ky} {x : Ky} (h : out.Pairwise KLt) : (ins out x).Pairwise KLt := by
  unfold ins
  split
  · exact h
  · rename_i hx
    have hlow : ∀ a ∈ out.take (pos x out), KLt a x := by
      intro a ha
      obtain ⟨j, hj, rfl⟩ := List.getElem_of_mem ha
      rw [List.length_take] at hj
      rw [List.getElem_take]
      exact pos_below x out j (by omega) (by omega)
    have hhigh : ∀ b ∈ out.drop (pos x out), KLt x b := by
      intro b hb
      obtain ⟨j, hj, rfl⟩ := List.getElem_of_mem hb
      rw [List.length_drop] at hj
      rw [List.getElem_drop]
      have h0 : KLt x (out[pos x out]'(by omega)) := by
        refine klt_or (fun e => hx ?_) (pos_stop x out (by omega))
        rw [← e]
        exact List.getElem_mem _
      cases j with
      | zero => simpa using h0
      | succ j => exact h0.trans ((List.pairwise_iff_getElem.1 h) _ _ (by omega) (by omega) (by omega))
    rw [List.pairwise_append]
    refine ⟨h.sublist (List.take_sublist _ _), ?_, ?_⟩
    · rw [List.pairwise_cons]
      exact ⟨hhigh, h.sublist (List.drop_sublist _ _)⟩
    · intro a ha b hb
      rcases List.mem_cons.1 hb with rfl | hb
      · exact hlow a ha
      · exact (hlow a ha).trans (hhigh b hb)
theorem sortR_mem {ks : List Ky} {k : Ky} : k ∈ sortR ks ↔ k ∈ ks := by
  have gen : ∀ (ks out : List Ky), k ∈ ks.foldl ins out ↔ k ∈ out ∨ k ∈ ks := by
    intro ks
    induction ks with
    | nil => intro out; simp
    | cons x r ih =>
      intro out
      rw [List.foldl_cons, ih, ins_mem, List.mem_cons]
      constructor
      · rintro ((h | h) | h)
        · exact .inr (.inl h)
        · exact .inl h
        · exact .inr (.inr h)
      · rintro (h | h | h)
        · exact .inl (.inr h)
        · exact .inl (.inl h)
        · exact .inr h
  have := gen ks []
  simpa [sortR] using this
theorem sortR_rises (ks : List Ky) : (sortR ks).Pairwise KLt := by
  have gen : ∀ (ks out : List Ky), out.Pairwise KLt → (ks.foldl ins out).Pairwise KLt := by
    intro ks
    induction ks with
    | nil => intro out h; exact h
    | cons x r ih => intro out h; rw [List.foldl_cons]; exact ih _ (ins_rises h)
  exact gen ks [] List.Pairwise.nil
theorem rises_nodup {l : List Ky} (h : l.Pairwise KLt) : l.Nodup := h.imp fun h => h.ne
theorem sortR_len (ks : List Ky) : (sortR ks).length ≤ ks.length := by
  have gen : ∀ (ks out : List Ky), (ks.foldl ins out).length ≤ out.length + ks.length := by
    intro ks
    induction ks with
    | nil => intro out; simp
    | cons x r ih =>
      intro out
      rw [List.foldl_cons]
      have h1 := ih (ins out x)
      have h2 := @ins_len out x
      simp only [List.length_cons]
      split at h2 <;> omega
  have := gen ks []
  simpa [sortR] using this
/-- Two rising lists of the same keys are one. -/
theorem rises_same : ∀ {l m : List Ky}, l.Pairwise KLt → m.Pairwise KLt → (∀ k, k ∈ l ↔ k ∈ m) → l = m
  | [], [], _, _, _ => rfl
  | [], b :: s, _, _, h => by have := (h b).2 (by simp); simp at this
  | a :: r, [], _, _, h => by have := (h a).1 (by simp); simp at this
  | a :: r, b :: s, h1, h2, h => by
    obtain ⟨a1, a2⟩ := List.pairwise_cons.1 h1
    obtain ⟨b1, b2⟩ := List.pairwise_cons.1 h2
    have hab : a = b := by
      rcases List.mem_cons.1 ((h a).1 (by simp)) with e | ha
      · exact e
      · rcases List.mem_cons.1 ((h b).2 (by simp)) with e | hb
        · exact e.symm
        · exact absurd ((a1 b hb).trans (b1 a ha)) (KLt.irr _)
    subst hab
    congr 1
    refine rises_same a2 b2 fun k => ⟨fun hk => ?_, fun hk => ?_⟩
    · rcases List.mem_cons.1 ((h k).1 (by simp [hk])) with e | h'
      · exact absurd (e ▸ a1 k hk) (KLt.irr _)
      · exact h'
    · rcases List.mem_cons.1 ((h k).2 (by simp [hk])) with e | h'
      · exact absurd (e ▸ b1 k hk) (KLt.irr _)
      · exact h'

/-! ### How often each is there -/
/-- How many of ks are among S. -/
def cin (S ks : List Ky) : Nat := (ks.filter fun k => decide (k ∈ S)).length
theorem cin_nil (ks : List Ky) : cin [] ks = 0 := by simp [cin]
theorem cin_cons (S : List Ky) (k : Ky) (r : List Ky) : cin S (k :: r) = (if k ∈ S then 1 else 0) + cin S r := by
  unfold cin
  rw [List.filter_cons]
  by_cases h : k ∈ S
  · rw [if_pos (decide_eq_true h), if_pos h, List.length_cons]; omega
  · rw [if_neg (by simpa using h), if_neg h]; omega
theorem cin_snoc {S : List Ky} {x : Ky} (hx : x ∉ S) : ∀ ks : List Ky, cin (S ++ [x]) ks = cin S ks + ks.count x
  | [] => rfl
  | k :: r => by
    have ih := cin_snoc hx r
    rw [cin_cons, cin_cons, ih, List.count_cons]
    by_cases e : k = x
    · subst e
      rw [if_pos (by simp), if_neg hx, if_pos (by simp)]; omega
    · have he : (k == x) = false := by simpa using e
      by_cases hS : k ∈ S
      · rw [if_pos (by simp [hS]), if_pos hS, he]; simp; omega
      · rw [if_neg (by simp [hS, e]), if_neg hS, he]; simp
theorem cin_all {S ks : List Ky} (h : ∀ k ∈ ks, k ∈ S) : cin S ks = ks.length := by
  unfold cin
  rw [List.filter_eq_self.2 (by simpa using h)]
theorem cin_le (S ks : List Ky) : cin S ks ≤ ks.length := List.length_filter_le _ _

/-! ### Rows of pages -/
/-- A row: its heap, its first page, how many. -/
structure Rw where
  h : Int
  p : Int
  n : Nat
/-- One key more. -/
def rstep (out : List Rw) (k : Ky) : List Rw :=
  match out.getLast? with
  | some r => if r.h = k.1 ∧ wrap64 (r.p + (r.n : Int)) = k.2 then out.dropLast ++ [⟨r.h, r.p, r.n + 1⟩] else out ++ [⟨k.1, k.2, 1⟩]
  | none => out ++ [⟨k.1, k.2, 1⟩]
def runsR (s : List Ky) : List Rw := s.foldl rstep []
theorem runsR_snoc (s : List Ky) (x : Ky) : runsR (s ++ [x]) = rstep (runsR s) x := by simp [runsR, List.foldl_append]
/-- Pages in all. -/
def pages (l : List Rw) : Nat := (l.map (·.n)).sum
theorem pages_snoc (l : List Rw) (r : Rw) : pages (l ++ [r]) = pages l + r.n := by simp [pages]
theorem rstep_cases (out : List Rw) (k : Ky) : (∃ l r, out = l ++ [r] ∧ r.h = k.1 ∧ wrap64 (r.p + (r.n : Int)) = k.2 ∧ rstep out k = l ++ [⟨r.h, r.p, r.n + 1⟩]) ∨ (rstep out k = out ++ [⟨k.1, k.2, 1⟩] ∧ ∀ l r, out = l ++ [r] → ¬ (r.h = k.1 ∧ wrap64 (r.p + (r.n : Int)) = k.2)) := by
  rcases List.eq_nil_or_concat out with rfl | ⟨l, r, rfl⟩
  · right
    exact ⟨rfl, fun l r e => by simp at e⟩
  · rw [List.concat_eq_append]
    have e : (l ++ [r]).getLast? = some r := by simp
    by_cases h : r.h = k.1 ∧ wrap64 (r.p + (r.n : Int)) = k.2
    · left
      refine ⟨l, r, rfl, h.1, h.2, ?_⟩
      unfold rstep
      rw [e]
      simp only
      rw [if_pos h, List.dropLast_concat]
    · right
      refine ⟨?_, fun l' r' e' => ?_⟩
      · unfold rstep
        rw [e]
        simp only
        rw [if_neg h]
      · obtain ⟨_, h2⟩ := List.append_inj' e' rfl
        simp only [List.cons.injEq, and_true] at h2
        exact h2 ▸ h
theorem pages_step (out : List Rw) (k : Ky) : pages (rstep out k) = pages out + 1 := by
  rcases rstep_cases out k with ⟨l, r, rfl, _, _, e⟩ | ⟨e, _⟩
  · rw [e, pages_snoc, pages_snoc]
    simp only
    omega
  · rw [e, pages_snoc]
theorem pages_runs (s : List Ky) : pages (runsR s) = s.length := by
  have gen : ∀ (s : List Ky) (out : List Rw), pages (s.foldl rstep out) = pages out + s.length := by
    intro s
    induction s with
    | nil => intro out; simp
    | cons x r ih => intro out; rw [List.foldl_cons, ih, pages_step, List.length_cons]; omega
  have := gen s []
  simpa [runsR, pages] using this
theorem pages_mem {l : List Rw} {r : Rw} (h : r ∈ l) : r.n ≤ pages l := by
  induction l with
  | nil => simp at h
  | cons x t ih =>
    have e : pages (x :: t) = x.n + pages t := by simp [pages]
    rw [e]
    rcases List.mem_cons.1 h with rfl | h
    · omega
    · have := ih h; omega
theorem runs_len_step (out : List Rw) (k : Ky) : (rstep out k).length ≤ out.length + 1 := by
  rcases rstep_cases out k with ⟨l, r, rfl, _, _, e⟩ | ⟨e, _⟩ <;> rw [e] <;> simp
theorem runs_len (s : List Ky) : (runsR s).length ≤ s.length := by
  have gen : ∀ (s : List Ky) (out : List Rw), (s.foldl rstep out).length ≤ out.length + s.length := by
    intro s
    induction s with
    | nil => intro out; simp
    | cons x r ih =>
      intro out
      rw [List.foldl_cons]
      have h1 := ih (rstep out x)
      have h2 := runs_len_step out x
      simp only [List.length_cons]
      omega
  have := gen s []
  simpa [runsR] using this
/-- Each row's numbers fit, and it has a page. -/
def RwI (r : Rw) : Prop := (-9223372036854775808 ≤ r.h ∧ r.h ≤ 9223372036854775807) ∧ (-9223372036854775808 ≤ r.p ∧ r.p ≤ 9223372036854775807) ∧ 1 ≤ r.n
theorem runs_fit {s : List Ky} (h : ∀ k ∈ s, (-9223372036854775808 ≤ k.1 ∧ k.1 ≤ 9223372036854775807) ∧ (-9223372036854775808 ≤ k.2 ∧ k.2 ≤ 9223372036854775807)) : ∀ r ∈ runsR s, RwI r := by
  have gen : ∀ (s : List Ky) (out : List Rw), (∀ k ∈ s, (-9223372036854775808 ≤ k.1 ∧ k.1 ≤ 9223372036854775807) ∧ (-9223372036854775808 ≤ k.2 ∧ k.2 ≤ 9223372036854775807)) → (∀ r ∈ out, RwI r) → ∀ r ∈ s.foldl rstep out, RwI r := by
    intro s
    induction s with
    | nil => intro out _ ho; exact ho
    | cons x t ih =>
      intro out hs ho
      rw [List.foldl_cons]
      refine ih _ (fun k hk => hs k (by simp [hk])) fun r hr => ?_
      rcases rstep_cases out x with ⟨l, r', rfl, _, _, e⟩ | ⟨e, _⟩
      · rw [e, List.mem_append, List.mem_singleton] at hr
        rcases hr with hr | rfl
        · exact ho r (by simp [hr])
        · obtain ⟨h1, h2, h3⟩ := ho r' (by simp)
          exact ⟨h1, h2, by simp only; omega⟩
      · rw [e, List.mem_append, List.mem_singleton] at hr
        rcases hr with hr | rfl
        · exact ho r hr
        · exact ⟨(hs x (by simp)).1, (hs x (by simp)).2, Nat.le_refl _⟩
  exact gen s [] h (by simp)
end Go.Proofs.YtfclhehpbniapaaDoor
