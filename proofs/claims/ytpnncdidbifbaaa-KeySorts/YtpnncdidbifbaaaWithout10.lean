/- Without of package key. -/
import Derived.Test.YtpnncdidbifbaaaSort10
namespace Go.Proofs.Ytpnncdidbifbaaa
open Go.RowKit Go.Maps
set_option linter.unusedVariables false

/-- Those that are not among some. -/
def lessK (ks gs : List Ky) : List Ky := ks.filter fun k => decide (k ∉ gs)
theorem lessK_snoc_in {ks gs : List Ky} {x : Ky} (h : x ∈ gs) : lessK (ks ++ [x]) gs = lessK ks gs := by simp [lessK, List.filter_append, h]
theorem lessK_snoc_no {ks gs : List Ky} {x : Ky} (h : x ∉ gs) : lessK (ks ++ [x]) gs = lessK ks gs ++ [x] := by simp [lessK, List.filter_append, h]
theorem lessK_len (ks gs : List Ky) : (lessK ks gs).length ≤ ks.length := List.length_filter_le _ _
theorem Map_alloc {w : World} {b : Nat} {ks : List Ky} (h : MapAt w b ks) (o : Obj) : MapAt (w.alloc o) b ks := h.kept ((Below.refl _ _).alloc (Nat.le_refl _) _)
set_option maxRecDepth 20000 in
set_option maxHeartbeats 2000000 in
theorem without_any (w : World) (v g : Value) (ks gs : List Ky) (hv : Keys w v ks) (hg : Keys w g gs) (hl : ks.length ≤ 1000) (hl2 : gs.length ≤ 1000) :
    Calls Try.prog 16 #[v, g] w fun e w' => ∃ u, e = .returned u ∧ Keys w' u (lessK ks gs) ∧ Below w.heap.size w w' ∧ ∀ g, u.ownBlock = some g → w.heap.size ≤ g := by
  have HC : Hid (Calls Try.prog 15 #[g] w fun e w' => e = .returned (.map (some w.heap.size)) ∧ MapAt w' w.heap.size gs ∧ Below w.heap.size w w') := count_any w g gs hg hl2
  have HK : Hid (∀ k ∈ ks, KI k) := hv.1
  obtain ⟨i0, hi, hz0, hz1, hz2⟩ := info_k
  obtain ⟨a, ca, rfl⟩ := hv.shape
  obtain ⟨n, hn⟩ : ∃ n, n = ks.length := ⟨_, rfl⟩
  rw [← hn] at hv hl ⊢
  have HN : Hid (n = ks.length) := hn
  have HV : Hid (Keys w (.slice a n ca) ks) := hv
  clear hn hv hg hl2
  go_enter Try.func16, Try.ntmps16
  go_wp2_with fail
  refine HC.out.mono ?_
  rintro e w1 ⟨rfl, hM, hB⟩
  have HM1 : Hid (MapAt w1 w.heap.size gs) := hM
  have HB1 : Hid (Below w.heap.size w w1) := hB
  have HL1 : Hid (w.heap.size + 1 ≤ w1.heap.size) := hM.lt
  clear hM hB HC
  go_wp2_with fail
  go_loopw [6, 13] (fun v i wr => ∃ k : Nat, i = .int .i64 (k : Nat) ∧ k ≤ n ∧ wr.ownsRow (w.heap.size + 1) 23 2 v (lessK (ks.take k) gs).length (kcells (lessK (ks.take k) gs)) ∧ Hid (MapAt wr w.heap.size gs) ∧ Hid (Below w.heap.size w wr) ∧ Hid (w.heap.size + 1 ≤ wr.heap.size)) (fun _ i _ => n - (intOf i).toNat)
  case atStart => exact ⟨0, rfl, Nat.zero_le _, World.ownsRow_nil _ _ _ _, HM1.out, HB1.out, HL1.out⟩
  case round =>
    obtain ⟨k, rfl, hk, hrow, HM, HB, HS⟩ := hrel
    have HRO : Hid (wr.ownsRow (w.heap.size + 1) 23 2 u6 (lessK (ks.take k) gs).length (kcells (lessK (ks.take k) gs))) := hrow
    clear hrow HM1 HB1 HL1
    by_cases hlt : k < n
    · obtain ⟨b, off, rfl, hb, hc⟩ := HV.out.addr (by omega)
      obtain ⟨h, p, hkk⟩ := key_at (ks := ks) (j := k) (by rw [← HN.out]; exact hlt)
      have c0 : wr.cell? ⟨b, off + k * 2, none⟩ = some (.int .i64 h) := (HB.out.cell (p := ⟨b, off + k * 2, none⟩) hb).trans (hc k _ hkk).1
      have c1 : wr.cell? ⟨b, off + k * 2 + 1, none⟩ = some (.int .i64 p) := (HB.out.cell (p := ⟨b, off + k * 2 + 1, none⟩) hb).trans (hc k _ hkk).2
      have HI : Hid (KI (h, p)) := HV.out.fit hkk
      have HTS : Hid (ks.take (k + 1) = ks.take k ++ [(h, p)]) := take_snoc hkk
      have HLL : Hid ((lessK (ks.take k) gs).length ≤ 1000) := by
        have h1 := lessK_len (ks.take k) gs
        rw [List.length_take] at h1
        unfold Hid
        omega
      clear hc hb hkk
      have hlk : (Instr.lookup 33 (.map (some w.heap.size)) (.agg #[.int .i64 h, .int .i64 p]) false).run Try.prog (wr.alloc (.cells #[.int .i64 h, .int .i64 p] 23)) = .ok (.int .i64 (gs.count (h, p) : Nat)) (wr.alloc (.cells #[.int .i64 h, .int .i64 p] 23)) := (Map_alloc HM.out _).look HI.out
      by_cases hin : (h, p) ∈ gs
      · have HE : Hid (lessK (ks.take (k + 1)) gs = lessK (ks.take k) gs) := by unfold Hid; rw [HTS.out, lessK_snoc_in hin]
        have hcz : gs.count (h, p) ≠ 0 := fun e => (List.count_eq_zero.1 e) hin
        have HRO2 : Hid ((wr.alloc (.cells #[.int .i64 h, .int .i64 p] 23)).ownsRow (w.heap.size + 1) 23 2 u6 (lessK (ks.take (k + 1)) gs).length (kcells (lessK (ks.take (k + 1)) gs))) := by rw [HE.out]; exact HRO.out.alloc _
        have HM2 : Hid (MapAt (wr.alloc (.cells #[.int .i64 h, .int .i64 p] 23)) w.heap.size gs) := Map_alloc HM.out _
        have HB2 : Hid (Below w.heap.size w (wr.alloc (.cells #[.int .i64 h, .int .i64 p] 23))) := HB.out.alloc HB.out.size _
        have HS2 : Hid (w.heap.size + 1 ≤ (wr.alloc (.cells #[.int .i64 h, .int .i64 p] 23)).heap.size) := by have := HS.out; unfold Hid; simp; omega
        clear hin HTS HI HE
        generalize gs.count (h, p) = c at *
        have hcn : (((c : Nat) : Int) = 0) = False := eq_false (by omega)
        go_wp2_with fail
        go_roundw
        case rel => exact ⟨k + 1, by go_num, by omega, HRO2.out, HM2.out, HB2.out, HS2.out⟩
        case measure => simp [intOf]; omega
      · have HE : Hid (lessK (ks.take (k + 1)) gs = lessK (ks.take k) gs ++ [(h, p)]) := by unfold Hid; rw [HTS.out, lessK_snoc_no hin]
        have hcz : gs.count (h, p) = 0 := List.count_eq_zero.2 hin
        rw [hcz] at hlk
        have HK1 : Hid (Keys ((wr.alloc (.cells #[.int .i64 h, .int .i64 p] 23)).alloc (.cells #[.int .i64 h, .int .i64 p] 23)) (.slice (some ⟨wr.heap.size + 1, 0, none⟩) 1 1) [(h, p)]) := keys_two (k := (h, p)) _ HI.out _
        have HM2 : Hid (MapAt ((wr.alloc (.cells #[.int .i64 h, .int .i64 p] 23)).alloc (.cells #[.int .i64 h, .int .i64 p] 23)) w.heap.size gs) := Map_alloc (Map_alloc HM.out _) _
        have HB2 : Hid (Below w.heap.size w ((wr.alloc (.cells #[.int .i64 h, .int .i64 p] 23)).alloc (.cells #[.int .i64 h, .int .i64 p] 23))) := (HB.out.alloc HB.out.size _).alloc (by have := HB.out.size; simp; omega) _
        have HNB : Hid (u6.ownBlock ≠ some w.heap.size) := fun e => by have := (HRO.out.lt _ e).1; omega
        clear hcz hin HTS HI
        go_wp2_with (first
          | (at_builtin; refine wpList_append_keys _ rfl _ _ 31 (by rfl) (w.heap.size + 1) 23 i0 Try.underlying31 hi hz0 hz1 hz2 u6 (lessK (ks.take k) gs).length (lessK (ks.take k) gs) (by rfl) ((HRO.out.alloc _).alloc _) (.slice (some ⟨wr.heap.size + 1, 0, none⟩) 1 1) [(h, p)] (by rfl) HK1.out (by have := HLL.out; simp; omega) (by have := HS.out; simp; omega) ?_; intro v5 w5 hown5 hg5 hat5; go_frame)
          | go_in)
        have HRO5 : Hid (w5.ownsRow (w.heap.size + 1) 23 2 v5 (lessK (ks.take (k + 1)) gs).length (kcells (lessK (ks.take (k + 1)) gs))) := by
          rw [HE.out, List.length_append]
          exact hown5
        have HM5 : Hid (MapAt w5 w.heap.size gs) := HM2.out.grown hg5 (fun e => HNB.out e.symm)
        have HB5 : Hid (Below w.heap.size w w5) := HB2.out.grown hg5 (by have := HB.out.size; simp; omega) (fun j hj => by have := (HRO.out.lt j hj).1; omega)
        have HS5 : Hid (w.heap.size + 1 ≤ w5.heap.size) := Nat.le_trans (by have := HS.out; simp; omega) hg5.size
        clear hown5 hg5 hat5
        go_roundw
        case rel => exact ⟨k + 1, by go_num, by omega, HRO5.out, HM5.out, HB5.out, HS5.out⟩
        case measure => simp [intOf]; omega
    · have HKs : Hid (Keys wr u6 (lessK ks gs)) := by
        have h1 := HRO.out
        rw [List.take_of_length_le (by rw [← HN.out]; omega)] at h1
        exact Keys.ofOwn h1 (fun k hk => HK.out k (List.mem_filter.1 hk).1)
      have HF : Hid (∀ g, u6.ownBlock = some g → w.heap.size ≤ g) := fun g hg => by have := (HRO.out.lt g hg).1; omega
      go_wp2
      go_ret
      exact ⟨_, rfl, HKs.out, HB.out, HF.out⟩
end Go.Proofs.Ytpnncdidbifbaaa
