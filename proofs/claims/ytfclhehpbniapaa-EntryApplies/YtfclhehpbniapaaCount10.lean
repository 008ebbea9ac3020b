/- Count of package key. -/
import Derived.Test.YtfclhehpbniapaaEntry10
import Derived.Test.YtfclhehpbniapaaRefHas10
namespace Go.Proofs.Ytfclhehpbniapaa
open Go.RowKit Go.Maps
set_option linter.unusedVariables false
set_option maxRecDepth 20000

theorem MapAt.made (w : World) : MapAt (w.alloc (.map #[] 0)) w.heap.size [] :=
  ⟨_, World.ownsMap_made _ _ _ _, CountD.nil⟩
theorem MapAt.drew {w : World} {b : Nat} {ks : List Ky} (h : MapAt w b ks) : MapAt w.drew b ks := h.kept ⟨rfl, rfl, rfl, Nat.le_refl _, fun _ _ => rfl⟩
set_option maxRecDepth 20000 in
set_option maxHeartbeats 1000000 in
theorem count_any (w : World) (v : Value) (ks : List Ky) (hv : Keys w v ks) (hl : ks.length ≤ 1000) :
    Calls Try.prog 48 #[v] w fun e w' => e = .returned (.map (some w.heap.size)) ∧ MapAt w' w.heap.size ks ∧ Below w.heap.size w w' := by
  obtain ⟨a, ca, rfl⟩ := hv.shape
  obtain ⟨n, hn⟩ : ∃ n, n = ks.length := ⟨_, rfl⟩
  rw [← hn] at hv hl ⊢
  have HN : Hid (n = ks.length) := hn
  have HV : Hid (Keys w (.slice a n ca) ks) := hv
  clear hn hv
  have hmm := @run_makeMap Try.prog
  go_enter Try.func48, Try.ntmps48
  go_wp2_with fail
  clear hmm
  have HM0 : Hid (MapAt (w.alloc (.map #[] 0)) w.heap.size []) := MapAt.made w
  have HB0 : Hid (Below w.heap.size w (w.alloc (.map #[] 0))) := (Below.refl _ _).alloc (Nat.le_refl _) _
  go_loopw [9] (fun i wr => ∃ k : Nat, i = .int .i64 (k : Nat) ∧ k ≤ n ∧ Hid (MapAt wr w.heap.size (ks.take k)) ∧ Hid (Below w.heap.size w wr)) (fun i _ => n - (intOf i).toNat)
  case atStart => exact ⟨0, rfl, Nat.zero_le _, HM0.out, HB0.out⟩
  case round =>
    obtain ⟨k, rfl, hk, HM, HB⟩ := hrel
    clear HM0 HB0
    by_cases hlt : k < n
    · obtain ⟨b, off, rfl, hb, hc⟩ := HV.out.addr (by omega)
      obtain ⟨h, p, hkk⟩ := key_at (ks := ks) (j := k) (by rw [← HN.out]; exact hlt)
      have c0 : wr.cell? ⟨b, off + k * 2, none⟩ = some (.int .i64 h) := (HB.out.cell (p := ⟨b, off + k * 2, none⟩) hb).trans (hc k _ hkk).1
      have c1 : wr.cell? ⟨b, off + k * 2 + 1, none⟩ = some (.int .i64 p) := (HB.out.cell (p := ⟨b, off + k * 2 + 1, none⟩) hb).trans (hc k _ hkk).2
      have HI : Hid (KI (h, p)) := HV.out.fit hkk
      have HS : Hid (ks.take (k + 1) = ks.take k ++ [(h, p)]) := take_snocA hkk
      have HC : Hid ((ks.take k).length ≤ 1000) := by unfold Hid; rw [List.length_take]; omega
      clear hc hb hkk
      obtain ⟨W, hW⟩ : ∃ W, W = (wr.alloc (.cells #[.int .i64 h, .int .i64 p] 36)).drew := ⟨_, rfl⟩
      have HMW : Hid (MapAt W w.heap.size (ks.take k)) := by rw [hW]; exact (HM.out.kept ((Below.refl _ _).alloc (Nat.le_refl _) _)).drew
      have HBW : Hid (Below w.heap.size w W) := by rw [hW]; exact HB.out.alloc HB.out.size _ |>.trans ⟨rfl, rfl, rfl, Nat.le_refl _, fun _ _ => rfl⟩
      have hlk := HMW.out.look HI.out
      obtain ⟨st, W1, W2, e1, g1, e2, e3, m3, g3⟩ := HMW.out.inc HI.out (by have := HC.out; omega)
      have d0 : W.cell? ⟨wr.heap.size, 0, none⟩ = some (.int .i64 h) := by rw [hW]; simp
      have d1 : W.cell? ⟨wr.heap.size, 1, none⟩ = some (.int .i64 p) := by rw [hW]; simp
      have hcb : (ks.take k).count (h, p) ≤ 1000 := Nat.le_trans (count_len _ _) HC.out
      simp only at hlk e1 e2
      have HM3 : Hid (MapAt W2 w.heap.size (ks.take (k + 1))) := by rw [HS.out]; exact m3
      have HB3 : Hid (Below w.heap.size w W2) := HBW.out.grown g3 HBW.out.size (fun j hj => by cases hj; exact Nat.le_refl _)
      clear m3 g3 g1 HM HB HMW HC HS HI
      generalize (ks.take k).count (h, p) = c at *
      subst hW
      go_wp2_with fail
      go_region
      all_goals go_wp2
      all_goals exact ⟨⟨k + 1, by go_num, by omega, HM3.out, HB3.out⟩, by simp [intOf]; omega⟩
    · have HMk : Hid (MapAt wr w.heap.size ks) := by
        have h1 := HM.out
        rwa [List.take_of_length_le (by rw [← HN.out]; omega)] at h1
      go_wp2
      go_ret
      exact ⟨rfl, HMk.out, HB.out⟩
end Go.Proofs.Ytfclhehpbniapaa
