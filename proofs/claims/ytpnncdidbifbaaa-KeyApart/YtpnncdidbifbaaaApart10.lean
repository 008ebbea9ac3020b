/- Rows of pages of right keys: what they cover, and that they never touch. -/
import Derived.Test.YtpnncdidbifbaaaRuns10
import Derived.Test.YtpnncdidbifbaaaWalkNum10
namespace Go.Proofs.Ytpnncdidbifbaaa
open Go.RowKit
set_option linter.unusedVariables false

structure RunsOf (s : List Ky) (out : List Rw) : Prop where
  some1 : ∀ r ∈ out, 1 ≤ r.n
  cov : ∀ k : Ky, k ∈ s ↔ ∃ r ∈ out, r.h = k.1 ∧ r.p ≤ k.2 ∧ k.2 < r.p + (r.n : Int)
  apart : out.Pairwise fun r r' => r.h < r'.h ∨ r.h = r'.h ∧ r.p + (r.n : Int) < r'.p
theorem RunsOf.first {s : List Ky} {out : List Rw} (h : RunsOf s out) {r : Rw} (hr : r ∈ out) : (r.h, r.p) ∈ s := by
  have := h.some1 r hr
  exact (h.cov _).2 ⟨r, hr, rfl, Int.le_refl _, by simp only; omega⟩
theorem RunsOf.final {s : List Ky} {out : List Rw} (h : RunsOf s out) {r : Rw} (hr : r ∈ out) : (r.h, r.p + (r.n : Int) - 1) ∈ s := by
  have := h.some1 r hr
  exact (h.cov _).2 ⟨r, hr, rfl, by simp only; omega, by simp only; omega⟩
theorem wrap_small {z : Int} (h : -9223372036854775808 ≤ z) (h2 : z ≤ 9223372036854775807) : wrap64 z = z := by unfold wrap64; omega
theorem RunsOf.step {s : List Ky} {out : List Rw} (h : RunsOf s out) {x : Ky} (hx : ∀ k ∈ s, KLt k x) (hr : ∀ k ∈ s, isR k = true) (hxr : isR x = true) : RunsOf (s ++ [x]) (rstep out x) := by
  obtain ⟨xh, xp⟩ := x
  have sum : ∀ r ∈ out, wrap64 (r.p + (r.n : Int)) = r.p + (r.n : Int) := fun r hro => by
    have h1 := isR_iff.1 (hr _ (h.first hro))
    have h2 := isR_iff.1 (hr _ (h.final hro))
    simp only at h1 h2
    exact wrap_small (by omega) (by omega)
  rcases rstep_cases out (xh, xp) with ⟨l, r, rfl, e1, e2, e⟩ | ⟨e, hno⟩
  · simp only at e1 e2
    rw [sum r (by simp)] at e2
    rw [e]
    have hn := h.some1 r (by simp)
    refine ⟨fun r' hr' => ?_, fun k => ?_, ?_⟩
    · rw [List.mem_append, List.mem_singleton] at hr'
      rcases hr' with hr' | rfl
      · exact h.some1 r' (by simp [hr'])
      · simp only; omega
    · rw [List.mem_append, List.mem_singleton, h.cov k]
      constructor
      · rintro (⟨r', hr', h1, h2, h3⟩ | rfl)
        · rw [List.mem_append, List.mem_singleton] at hr'
          rcases hr' with hr' | rfl
          · exact ⟨r', by simp [hr'], h1, h2, h3⟩
          · exact ⟨⟨r'.h, r'.p, r'.n + 1⟩, by simp, h1, h2, by simp only; omega⟩
        · exact ⟨⟨r.h, r.p, r.n + 1⟩, by simp, e1, by simp only; omega, by simp only; omega⟩
      · rintro ⟨r', hr', h1, h2, h3⟩
        rw [List.mem_append, List.mem_singleton] at hr'
        rcases hr' with hr' | rfl
        · exact .inl ⟨r', by simp [hr'], h1, h2, h3⟩
        · simp only at h1 h2 h3
          by_cases hk : k.2 < r.p + (r.n : Int)
          · exact .inl ⟨r, by simp, h1, h2, hk⟩
          · right
            exact Prod.ext (h1.symm.trans e1) (by simp only; omega)
    · have ha := h.apart
      rw [List.pairwise_append] at ha ⊢
      obtain ⟨a1, _, a3⟩ := ha
      refine ⟨a1, by simp, fun a haa b hb => ?_⟩
      rw [List.mem_singleton] at hb
      subst hb
      exact a3 a haa r (by simp)
  · rw [e]
    refine ⟨fun r' hr' => ?_, fun k => ?_, ?_⟩
    · rw [List.mem_append, List.mem_singleton] at hr'
      rcases hr' with hr' | rfl
      · exact h.some1 r' hr'
      · exact Nat.le_refl _
    · rw [List.mem_append, List.mem_singleton, h.cov k]
      constructor
      · rintro (⟨r', hr', h1⟩ | rfl)
        · exact ⟨r', by simp [hr'], h1⟩
        · exact ⟨⟨xh, xp, 1⟩, by simp, rfl, Int.le_refl _, by simp only; omega⟩
      · rintro ⟨r', hr', h1, h2, h3⟩
        rw [List.mem_append, List.mem_singleton] at hr'
        rcases hr' with hr' | rfl
        · exact .inl ⟨r', hr', h1, h2, h3⟩
        · right
          simp only at h1 h2 h3
          exact Prod.ext h1.symm (by simp only; omega)
    · rw [List.pairwise_append]
      refine ⟨h.apart, by simp, fun a haa b hb => ?_⟩
      rw [List.mem_singleton] at hb
      subst hb
      simp only
      have k1 := hx _ (h.final haa)
      unfold KLt at k1
      simp only at k1
      by_cases heq : a.h = xh ∧ a.p + (a.n : Int) = xp
      · exfalso
        rcases List.eq_nil_or_concat out with rfl | ⟨l, r, hl⟩
        · simp at haa
        · rw [List.concat_eq_append] at hl
          by_cases har : a = r
          · subst har
            refine hno l a hl ⟨heq.1, ?_⟩
            rw [sum a haa]
            exact heq.2
          · have hap := h.apart
            rw [hl, List.pairwise_append] at hap
            have hal : a ∈ l := by
              rw [hl, List.mem_append, List.mem_singleton] at haa
              exact haa.resolve_right har
            have k2 := hap.2.2 a hal r (by simp)
            have k3 := hx _ (h.first (r := r) (by rw [hl]; simp))
            unfold KLt at k3
            simp only at k3
            omega
      · omega
theorem runs_of {s : List Ky} (hs : s.Pairwise KLt) (hr : ∀ k ∈ s, isR k = true) : RunsOf s (runsR s) := by
  have gen : ∀ (t pre : List Ky) (out : List Rw), RunsOf pre out → (pre ++ t).Pairwise KLt → (∀ k ∈ pre ++ t, isR k = true) → RunsOf (pre ++ t) (t.foldl rstep out) := by
    intro t
    induction t with
    | nil => intro pre out h _ _; simpa using h
    | cons x r ih =>
      intro pre out h hp hr
      rw [List.foldl_cons]
      have e : pre ++ x :: r = (pre ++ [x]) ++ r := by simp
      rw [e] at hp hr ⊢
      refine ih (pre ++ [x]) _ (h.step (fun k hk => ?_) (fun k hk => hr k (by simp [hk])) (hr x (by simp))) hp hr
      rw [List.append_assoc, List.pairwise_append] at hp
      exact hp.2.2 k hk x (by simp)
  have h0 : RunsOf [] [] := ⟨by simp, by simp, List.Pairwise.nil⟩
  simpa [runsR] using gen s [] [] h0 (by simpa using hs) (by simpa using hr)
/-- A page more would be in none. -/
theorem RunsOf.more {s : List Ky} {out : List Rw} (h : RunsOf s out) {r : Rw} (hr : r ∈ out) : (r.h, r.p + (r.n : Int)) ∉ s ∧ (r.h, r.p - 1) ∉ s := by
  have hn := h.some1 r hr
  have key : ∀ r' ∈ out, r' ≠ r → (r.h < r'.h ∨ r.h = r'.h ∧ r.p + (r.n : Int) < r'.p) ∨ (r'.h < r.h ∨ r'.h = r.h ∧ r'.p + (r'.n : Int) < r.p) := by
    intro r' hr' hne
    obtain ⟨i, hi, e1⟩ := List.getElem_of_mem hr
    obtain ⟨j, hj, e2⟩ := List.getElem_of_mem hr'
    have hap := List.pairwise_iff_getElem.1 h.apart
    rcases Nat.lt_trichotomy i j with hij | hij | hij
    · left; have := hap i j hi hj hij; rwa [e1, e2] at this
    · exfalso; subst hij; exact hne (e2.symm.trans e1)
    · right; have := hap j i hj hi hij; rwa [e1, e2] at this
  refine ⟨fun hm => ?_, fun hm => ?_⟩
  · obtain ⟨r', hr', h1, h2, h3⟩ := (h.cov _).1 hm
    simp only at h1 h2 h3
    by_cases e : r' = r
    · subst e; omega
    · have := key r' hr' e; omega
  · obtain ⟨r', hr', h1, h2, h3⟩ := (h.cov _).1 hm
    simp only at h1 h2 h3
    by_cases e : r' = r
    · subst e; omega
    · have := key r' hr' e; omega
end Go.Proofs.Ytpnncdidbifbaaa
