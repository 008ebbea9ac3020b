/- The document's Has and Same over keys. -/
import Derived.Test.YtfclhehpbniapaaKeys10
namespace Go.Proofs.Ytfclhehpbniapaa
open Go.RowKit
set_option linter.unusedVariables false

def hasK (ks : List Ky) (k : Ky) : Bool := decide (k ∈ ks)
theorem take_snocA {α : Type} {l : List α} {k : Nat} {x : α} (h : l[k]? = some x) : l.take (k + 1) = l.take k ++ [x] := by
  rw [List.take_add_one, h]; rfl
theorem key_at {ks : List Ky} {j : Nat} (h : j < ks.length) : ∃ h' p', ks[j]? = some (h', p') := ⟨ks[j].1, ks[j].2, List.getElem?_eq_getElem h⟩
set_option maxRecDepth 20000 in
set_option maxHeartbeats 1000000 in
theorem has_any (w : World) (v : Value) (ks : List Ky) (h p : Int) (hv : Keys w v ks) :
    Calls Try.prog 33 #[v, .agg #[.int .i64 h, .int .i64 p]] w fun e w' => e = .returned (.bool (hasK ks (h, p))) ∧ Below w.heap.size w w' := by
  obtain ⟨a, ca, rfl⟩ := hv.shape
  have hl : ks.length ≤ 9223372036854775807 := by have := hv.2.1; unfold maxLen at this; omega
  obtain ⟨n, hn⟩ : ∃ n, n = ks.length := ⟨_, rfl⟩
  rw [← hn] at hv hl ⊢
  have HN : Hid (n = ks.length) := hn
  have HV : Hid (Keys w (.slice a n ca) ks) := hv
  clear hn hv
  go_enter Try.func33, Try.ntmps33
  go_wp2_with fail
  generalize hW : w.alloc (.cells #[.int .i64 h, .int .i64 p] 36) = W0
  have HB0 : Hid (Below w.heap.size w W0) := by rw [← hW]; exact (Below.refl _ _).alloc (Nat.le_refl _) _
  have d0 : W0.cell? ⟨w.heap.size, 0, none⟩ = some (.int .i64 h) := by rw [← hW]; simp
  have d1 : W0.cell? ⟨w.heap.size, 1, none⟩ = some (.int .i64 p) := by rw [← hW]; simp
  clear hW
  go_loopw [5] (fun i wr => ∃ k : Nat, i = .int .i64 (k : Nat) ∧ k ≤ n ∧ Hid ((h, p) ∉ ks.take k) ∧ ∃ m, wr = W0.drewN m) (fun i _ => n - (intOf i).toNat)
  case atStart => exact ⟨0, rfl, Nat.zero_le _, by simp [Hid], 0, rfl⟩
  case round =>
    obtain ⟨k, rfl, hk, HT, m, rfl⟩ := hrel
    by_cases hlt : k < n
    · obtain ⟨b, off, rfl, hb, hc⟩ := HV.out.addr (by omega)
      obtain ⟨h', p', hkk⟩ := key_at (ks := ks) (j := k) (by rw [← HN.out]; exact hlt)
      have c0 := (HB0.out.cell (p := ⟨b, off + k * 2, none⟩) hb).trans (hc k _ hkk).1
      have c1 := (HB0.out.cell (p := ⟨b, off + k * 2 + 1, none⟩) hb).trans (hc k _ hkk).2
      have HM : Hid ((h', p') ∈ ks) := List.mem_of_getElem? hkk
      have HS : Hid (ks.take (k + 1) = ks.take k ++ [(h', p')]) := take_snocA hkk
      clear hc hb hkk
      simp only at c0 c1
      by_cases e1 : h' = h
      · by_cases e2 : p' = p
        · subst e1 e2
          have HK : Hid (hasK ks (h', p') = true) := decide_eq_true HM.out
          go_wp2_with fail
          go_quiet (fail)
          go_wp2
          go_ret
          rw [World.drewN_drewN]
          exact ⟨ret_bool HK.out.symm, HB0.out.trans ((below_dr _ _).mono HB0.out.size)⟩
        · have HT2 : Hid ((h, p) ∉ ks.take (k + 1)) := by
            unfold Hid
            rw [HS.out, List.mem_append, List.mem_singleton]
            exact fun h => h.elim HT.out (fun e => e2 (by cases e; rfl))
          have hne : (p' == p) = false := by simpa using e2
          clear HS HM HT
          subst e1
          go_wp2_with fail
          go_quiet (fail)
          go_wp2
          go_roundw
          case rel => exact ⟨k + 1, by go_num, by omega, HT2, _, rfl⟩
          case measure => simp [intOf]; omega
      · have HT2 : Hid ((h, p) ∉ ks.take (k + 1)) := by
          unfold Hid
          rw [HS.out, List.mem_append, List.mem_singleton]
          exact fun h => h.elim HT.out (fun e => e1 (by cases e; rfl))
        have hne : (h' == h) = false := by simpa using e1
        clear HS HM HT
        go_wp2_with fail
        go_quiet (fail)
        go_wp2
        go_roundw
        case rel => exact ⟨k + 1, by go_num, by omega, HT2, _, rfl⟩
        case measure => simp [intOf]; omega
    · have HK : Hid (hasK ks (h, p) = false) := by
        have h1 := HT.out
        rw [List.take_of_length_le (by rw [← HN.out]; omega)] at h1
        exact decide_eq_false h1
      go_wp2
      go_ret
      exact ⟨ret_bool HK.out.symm, HB0.out.trans ((below_dr _ _).mono HB0.out.size)⟩

/-! ### Same -/
def sameK (us vs : List Ky) : Bool := decide (us = vs)
end Go.Proofs.Ytfclhehpbniapaa
