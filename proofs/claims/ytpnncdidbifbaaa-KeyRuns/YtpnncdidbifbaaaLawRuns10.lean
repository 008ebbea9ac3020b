/- The law KeyRuns. -/
import Derived.Test.YtpnncdidbifbaaaLawNumbers10
import Derived.Test.YtpnncdidbifbaaaRefRuns10
namespace Go.Proofs.Ytpnncdidbifbaaa
open Go.RowKit Go.Maps
set_option linter.unusedVariables false

theorem pages_take {R : List Rw} {j : Nat} {r : Rw} (h : R[j]? = some r) : pages (R.take (j + 1)) = pages (R.take j) + r.n := by
  rw [take_snoc h, pages_snoc]
theorem pages_append (a b : List Rw) : pages (a ++ b) = pages a + pages b := by simp [pages]
theorem pages_part (R : List Rw) (j : Nat) : pages (R.take j) ≤ pages R := by
  have e := pages_append (R.take j) (R.drop j)
  rw [List.take_append_drop] at e
  omega
theorem row_at10 {R : List Rw} {j : Nat} (h : j < R.length) : ∃ a b n, R[j]? = some ⟨a, b, n⟩ := ⟨R[j].h, R[j].p, R[j].n, List.getElem?_eq_getElem h⟩
set_option maxRecDepth 20000 in
set_option maxHeartbeats 4000000 in
theorem keyRuns_walk (a0 : Option Addr) (len0 cap0 : Nat) (c0 : List Ky) (w : World) (f0 : Keys w (.slice a0 len0 cap0) c0) :
    Calls Try.prog 5 #[.slice a0 len0 cap0] w fun e w' => e = .returned (.bool true) ∧ Below w.heap.size w w' := by
  have HAW : Hid (∀ W, Calls Try.prog 7 #[] W fun e w' => e = .returned (.bool true) ∧ Below W.heap.size W w') := awake_any
  have hm0 : len0 ≤ 9223372036854775807 := by have := f0.capLe; unfold maxLen at this; omega
  have HL0 : Hid (c0.length = len0) := f0.lenEq
  have HF0 : Hid (Keys w (.slice a0 len0 cap0) c0) := f0
  clear f0
  by_cases hl0 : 40 < len0
  · go_enter Try.func5, Try.ntmps5
    go_wp2_with fail
    refine (HAW.out _).mono ?_
    rintro e w1 ⟨rfl, hB⟩
    have HB : Hid (Below w.heap.size w w1) := hB
    clear hB
    go_wp2_with fail
    refine (HAW.out _).mono ?_
    rintro e w2 ⟨rfl, hB2⟩
    have HB2 : Hid (Below w.heap.size w w2) := HB.out.trans (hB2.mono HB.out.size)
    clear hB2
    go_wp2
    go_ret
    exact ⟨rfl, HB2.out⟩
  have hl0' : len0 ≤ 40 := by omega
  clear hm0
  go_enter Try.func5, Try.ntmps5
  go_wp2_with fail
  refine (HAW.out _).mono ?_
  rintro e w1 ⟨rfl, hB⟩
  have HB1 : Hid (Below w.heap.size w w1) := hB
  have HRU : Hid (Calls Try.prog 20 #[.slice a0 len0 cap0] w1 fun e w' => ∃ u, e = .returned u ∧ Rws w' u (runsR (sortR c0)) ∧ Below w1.heap.size w1 w') := runs_any w1 _ c0 (HF0.out.kept hB) (by have := HL0.out; omega)
  clear hB HAW
  go_wp2_with fail
  refine HRU.out.mono ?_
  rintro e w2 ⟨u, rfl, hR, hB⟩
  have HR2 : Hid (Rws w2 u (runsR (sortR c0))) := hR
  have HB2 : Hid (Below w.heap.size w w2) := HB1.out.trans (hB.mono HB1.out.size)
  have HRR : Hid (Calls Try.prog 21 #[.slice a0 len0 cap0] w2 fun e w' => ∃ u, e = .returned u ∧ Rws w' u (runsR (sortR c0)) ∧ Below w2.heap.size w2 w') := refRuns_any w2 _ c0 (HF0.out.kept HB2.out) (by have := HL0.out; omega)
  clear hR hB HRU HB1
  go_wp2_with fail
  refine HRR.out.mono ?_
  rintro e w3 ⟨x, rfl, hR, hB⟩
  have HRu : Hid (Rws w3 u (runsR (sortR c0))) := HR2.out.kept hB
  have HRx : Hid (Rws w3 x (runsR (sortR c0))) := hR
  have HB3 : Hid (Below w.heap.size w w3) := HB2.out.trans (hB.mono HB2.out.size)
  have HPS : Hid (pages (runsR (sortR c0)) = (sortR c0).length) := pages_runs _
  have HPL : Hid ((sortR c0).length ≤ 40) := by have := sortR_len c0; have := HL0.out; unfold Hid; omega
  have HFT : Hid (∀ r ∈ runsR (sortR c0), 1 ≤ r.n) := fun r hr => (runs_fit (s := sortR c0) (fun k hk => HF0.out.1 k (sortR_mem.1 hk)) r hr).2.2
  have HRL : Hid ((runsR (sortR c0)).length ≤ 40) := Nat.le_trans (runs_len _) HPL.out
  clear hR hB HRR HR2 HB2
  generalize runsR (sortR c0) = R at *
  obtain ⟨ua, uc, rfl⟩ := HRu.out.shape
  obtain ⟨xa, xc, rfl⟩ := HRx.out.shape
  obtain ⟨m, hm⟩ : ∃ m, m = R.length := ⟨_, rfl⟩
  rw [← hm] at HRu HRx HRL ⊢
  have hm40 : m ≤ 40 := HRL.out
  have HML : Hid (m = R.length) := hm
  clear hm
  go_wp2_with fail
  go_loopw [5, 6] (fun t i wr => ∃ j : Nat, i = .int .i64 (j : Nat) ∧ j ≤ m ∧ ∃ tt : Nat, t = .int .i64 (tt : Nat) ∧ tt ≤ 40 ∧ Hid (tt = pages (R.take j)) ∧ ∃ q, wr = w3.drewN q) (fun _ i _ => m - (intOf i).toNat)
  case atStart => exact ⟨0, rfl, Nat.zero_le _, 0, rfl, Nat.zero_le _, rfl, 0, rfl⟩
  case round =>
    obtain ⟨j, rfl, hj, tt, rfl, htt, HTT, q, rfl⟩ := hrel
    by_cases hlt : j < m
    · obtain ⟨rh, rp, rn, hr⟩ := row_at10 (R := R) (j := j) (by rw [← HML.out]; exact hlt)
      obtain ⟨ub, uo, rfl, _, huc⟩ := HRu.out.addr (by omega)
      obtain ⟨xb, xo, rfl, _, hxc⟩ := HRx.out.addr (by omega)
      have s0 : w3.cell? ⟨ub, uo + j * 3, none⟩ = some (.int .i64 rh) := (huc j _ hr).1
      have s1 : w3.cell? ⟨ub, uo + j * 3 + 1, none⟩ = some (.int .i64 rp) := (huc j _ hr).2.1
      have s2 : w3.cell? ⟨ub, uo + j * 3 + 2, none⟩ = some (.int .i64 (rn : Nat)) := (huc j _ hr).2.2
      have t0 : w3.cell? ⟨xb, xo + j * 3, none⟩ = some (.int .i64 rh) := (hxc j _ hr).1
      have t1 : w3.cell? ⟨xb, xo + j * 3 + 1, none⟩ = some (.int .i64 rp) := (hxc j _ hr).2.1
      have t2 : w3.cell? ⟨xb, xo + j * 3 + 2, none⟩ = some (.int .i64 (rn : Nat)) := (hxc j _ hr).2.2
      have hrn : 1 ≤ rn := HFT.out _ (List.mem_of_getElem? hr)
      have hrn1 : ¬ (rn : Int) < 1 := by omega
      have HT2 : Hid (tt + rn = pages (R.take (j + 1))) := by unfold Hid; rw [pages_take hr, HTT.out]
      have htn : tt + rn ≤ 40 := by have := HT2.out; have := pages_part R (j + 1); have := HPS.out; have := HPL.out; omega
      clear huc hxc hr HTT
      go_wp2_with fail
      go_quiet (fail)
      go_wp2_with fail
      go_roundw
      case rel => exact ⟨j + 1, by go_num, by omega, tt + rn, by go_num, htn, HT2.out, _, rfl⟩
      case measure => simp [intOf]; omega
    · have HTE : Hid (tt = (sortR c0).length) := by
        have h1 := HTT.out
        rw [List.take_of_length_le (by rw [← HML.out]; omega), HPS.out] at h1
        exact h1
      have HBq : Hid (Below w.heap.size w (w3.drewN q)) := HB3.out.trans ((below_dr w3 q).mono HB3.out.size)
      have HRS : Hid (Calls Try.prog 19 #[.slice a0 len0 cap0] (w3.drewN q) fun e w' => ∃ u, e = .returned u ∧ Keys w' u (sortR c0) ∧ Below (w3.drewN q).heap.size (w3.drewN q) w' ∧ ∀ g, u.ownBlock = some g → (w3.drewN q).heap.size ≤ g) := refSort_any _ _ c0 (HF0.out.kept HBq.out) (by have := HL0.out; omega)
      clear HTT HB3 HRu HRx
      go_wp2_with fail
      refine HRS.out.mono ?_
      rintro e wa ⟨ur, rfl, hK, hB, _⟩
      have HBa : Hid (Below w.heap.size w wa) := HBq.out.trans (hB.mono HBq.out.size)
      obtain ⟨ra, rc, rfl⟩ := hK.shape
      rw [← HTE.out]
      clear hK hB HRS HBq
      go_wp2
      go_ret
      exact ⟨rfl, HBa.out⟩
end Go.Proofs.Ytpnncdidbifbaaa
