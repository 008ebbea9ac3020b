/- Contract of slices.Chunk over octets and of its iterator, by footprints. -/
import Derived.Test.YtndeknkfljnjoaaDoorSepLaw
import Derived.Test.YtndeknkfljnjoaaDoorWalkBytes
import Derived.Deep.RegionHeld3
import Derived.TacticsInMore
import Derived.LoopNIn
import Derived.LoopIn
namespace Go.Proofs.YtndeknkfljnjoaaDoor
open Go.RowKit Go.Shelf
set_option linter.unusedVariables false
attribute [local go_sem] Oper.semAt_some

theorem cells_of_cell {w : World} {b o : Nat} {v : Value} (h : w.cell? ⟨b, o, none⟩ = some v) : ∃ c t f, w.heap[b]? = some (.cells c t f) := by
  unfold World.cell? at h
  cases hb : w.heap[b]? with
  | none => simp [hb] at h
  | some ob =>
    cases ob with
    | cells c t f => exact ⟨c, t, f, rfl⟩
    | _ => simp [hb] at h
theorem chunk_v (w : World) (v : Value) (a : Option Addr) (len cap : Nat) (hv : v = .slice a len cap) (n : Nat) (hn : 1 ≤ n) :
    Calls Tryd.prog 48 #[v, .int .i64 (n : Nat)] w fun e w' => e = .returned (.func (.func 53) #[] #[.pointer (some ⟨w.heap.size, 0, none⟩), .pointer (some ⟨w.heap.size + 1, 0, none⟩)]) ∧ w' = (w.alloc (.cells #[v] 22)).alloc (.cells #[.int .i64 (n : Nat)] 3) := by
  subst hv
  have h1 : ¬ (n : Int) < 1 := by omega
  go_enter Tryd.func48, Tryd.ntmps48
  go_wp2
  go_ret
  exact ⟨rfl, rfl⟩

/-- How long the k-th chunk is. -/
def chunkLen (N L k : Nat) : Nat := min N (L - N * k)
def chunkV (b off N L k : Nat) : Value := .slice (some ⟨b, off + N * k, none⟩) (chunkLen N L k) (chunkLen N L k)
def chunks (N L : Nat) : Nat := (L + (N - 1)) / N
theorem chunks_lt {N L k : Nat} (hN : 1 ≤ N) : N * k < L ↔ k < chunks N L := by
  unfold chunks
  rw [Nat.lt_div_iff_mul_lt (by omega), Nat.mul_comm k N]
  omega
theorem octs_chunk {w : World} {b off L cap : Nat} {zs : List Nat} (h : Octs w (.slice (some ⟨b, off, none⟩) L cap) zs) (N k : Nat) (hk : N * k < L) : Octs w (chunkV b off N L k) ((zs.drop (N * k)).take N) := by
  have hl := h.lenEq
  have h1 := h.back (n := N * k) (x := off + N * k) (by omega) (.inl rfl)
  have h2 := h1.front (n := chunkLen N L k) (by unfold chunkLen; omega)
  have e : (zs.drop (N * k)).take (chunkLen N L k) = (zs.drop (N * k)).take N := by
    unfold chunkLen
    by_cases hc : N ≤ L - N * k
    · rw [Nat.min_eq_left hc]
    · rw [Nat.min_eq_right (by omega), List.take_of_length_le (by rw [List.length_drop]; omega), List.take_of_length_le (by rw [List.length_drop]; omega)]
  rw [e] at h2
  -- the capacity is cut too
  obtain ⟨q1, q2, ad, c, eq, q3, q4, q5⟩ := h2
  simp only [Value.slice.injEq] at eq
  obtain ⟨eq1, -, -⟩ := eq
  subst eq1
  have hlen : ((zs.drop (N * k)).take N).length = chunkLen N L k := by rw [List.length_take, List.length_drop, hl]; rfl
  refine ⟨q1, q2, some ⟨b, off + N * k, none⟩, chunkLen N L k, ?_, ?_, ?_, ?_⟩
  · rw [hlen]; rfl
  · rw [hlen]; exact Nat.le_refl _
  · have : chunkLen N L k ≤ L := by unfold chunkLen; omega
    have := h.capLe
    omega
  · rcases q5 with ⟨e1, _⟩ | q5
    · cases e1
    · exact .inr q5

set_option maxRecDepth 20000 in
set_option maxHeartbeats 1000000 in
theorem chunk_seq (Bs Bn b off N L cap : Nat) (a : Option Addr) (hN : 1 ≤ N) (hN2 : N ≤ 100000) (hL : L ≤ 1000000) (hcap : L ≤ cap) (ha : 0 < L → a = some ⟨b, off, none⟩) (W0 : World) (R : Nat → Prop) (hRs : R Bs) (hRn : R Bn) (hRl : ∀ k, R k → k < W0.heap.size)
    (hBs : W0.cell? ⟨Bs, 0, none⟩ = some (.slice a L cap)) (hBn : W0.cell? ⟨Bn, 0, none⟩ = some (.int .i64 (N : Nat))) :
    SeqSep Tryd.prog 53 #[.pointer (some ⟨Bs, 0, none⟩), .pointer (some ⟨Bn, 0, none⟩)] (fun k => #[chunkV b off N L k]) (fun pre k W => k = pre.length ∧ N * k < L ∧ Kept R W0 W) R (fun xs => xs = List.range (chunks N L)) (fun _ => True) W0 := by
  intro l J Jx D W hJ hJx hR hRD hY h0
  have HJ : Hid (Local J) := hJ
  have HY : Hid (YieldSep Tryd.prog l (fun k => #[chunkV b off N L k]) (fun pre k W => k = pre.length ∧ N * k < L ∧ Kept R W0 W) J Jx) := hY
  have HRD : Hid (∀ k, R k → ¬ D k) := hRD
  have HRR : Hid (R Bs ∧ R Bn) := ⟨hRs, hRn⟩
  have HRk : Hid (∀ wr, Spared D W wr → Kept R W0 wr.drew) := fun wr h => (hR.trans (h.mono fun k hk => ⟨Nat.lt_of_lt_of_le (hRl k hk) hR.size, hRD k hk⟩)).drew
  have HBs : Hid (W.cell? ⟨Bs, 0, none⟩ = some (.slice a L cap)) := (hR.cell (p := ⟨Bs, 0, none⟩) hRs).trans hBs
  have HBn : Hid (W.cell? ⟨Bn, 0, none⟩ = some (.int .i64 (N : Nat))) := (hR.cell (p := ⟨Bn, 0, none⟩) hRn).trans hBn
  have HLs : Hid (Bs < W.heap.size ∧ Bn < W.heap.size) := by
    refine ⟨?_, ?_⟩
    · obtain ⟨_, _, _, h⟩ := cells_of_cell HBs.out; exact lt_of_heap h
    · obtain ⟨_, _, _, h⟩ := cells_of_cell HBn.out; exact lt_of_heap h
  have HH0 : Hid (J D [] W) := h0
  clear hJ hJx hR hRD hY h0 hBs hBn hRs hRn hRl
  refine (callsIn_wide (n := 3)).1 (callsIn_of_wp (F := Fence.wide) (n := 3) Tryd.func53 rfl trivial ?_ rfl)
  simp only [Tryd.ntmps53, List.size_toArray, List.length_cons, List.length_nil, Nat.reduceAdd, Nat.reduceSub, Array.replicate_succ, Array.replicate_zero, List.push_toArray, List.append_toArray, List.nil_append, List.cons_append]
  gi_wp2
  gi_loopw [4] (fun i wr => ∃ (k : Nat) (D1 : Nat → Prop), N * k < L + N ∧ i = .int .i64 ((N * k : Nat) : Int) ∧ Hid (J D1 (List.range k) wr) ∧ Hid (Grew D D1 W.heap.size) ∧ Hid (Spared D W wr)) (fun i _ => L + N - (intOf i).toNat)
  case atStart => exact ⟨0, D, by omega, by simp, HH0.out, Grew.refl _ _, Kept.refl _ _⟩
  case round =>
    obtain ⟨k, D1, hk, rfl, HJS, HGR, HSP⟩ := hrel
    have HSz : Hid (W.heap.size ≤ wr.heap.size) := HSP.out.size
    have c1 : wr.cell? ⟨Bs, 0, none⟩ = some (.slice a L cap) := (HSP.out.cell (p := ⟨Bs, 0, none⟩) ⟨HLs.out.1, HRD.out _ HRR.out.1⟩).trans HBs.out
    have c2 : wr.cell? ⟨Bn, 0, none⟩ = some (.int .i64 (N : Nat)) := (HSP.out.cell (p := ⟨Bn, 0, none⟩) ⟨HLs.out.2, HRD.out _ HRR.out.2⟩).trans HBn.out
    by_cases hlt : N * k < L
    · obtain rfl := ha (by omega)
      obtain ⟨E, hE⟩ : ∃ E, E = chunkLen N L k := ⟨_, rfl⟩
      have hsucc : N * (k + 1) = N * k + N := Nat.mul_succ N k
      have HJd : Hid (J D1 (List.range k) wr.drew) := HJ.out.same _ _ _ _ HJS.out (Kept.refl _ _).drew
      obtain ⟨fn, tmps, assign, body, hy, hRd⟩ := HY.out D1 (List.range k) k wr.drew HJd.out ⟨by simp, hlt, HRk.out _ HSP.out⟩ 2
      have HSucc : Hid (List.range (k + 1) = List.range k ++ [k]) := List.range_succ
      dsimp only [chunkV] at hy
      rw [← hE] at hy
      have hE' : E = min N (L - N * k) := hE
      generalize hi : N * k = i at *
      have hE1 : 1 ≤ E ∧ i + E ≤ L ∧ E ≤ N := by omega
      obtain ⟨H, hH⟩ : ∃ H, H = i + E := ⟨_, rfl⟩
      have d1 : (i : Int) < (L : Nat) := by omega
      have d2 : (0 : Int) ≤ (i : Nat) := by omega
      have d3 : (i : Int) ≤ (L : Nat) := by omega
      have d4 : ¬ cap = i := by omega
      by_cases hmin : L - i < N
      · have dA : L - i = E := by omega
        rw [dA] at hmin
        have dA1 : (E : Int) < (N : Nat) := by omega
        have dA2 : (if (E : Int) < (N : Nat) then (E : Int) else (N : Nat)) = (E : Nat) := if_pos dA1
        have d6 : (i : Int) + (E : Nat) = (H : Nat) := by omega
        have d7 : IntKind.i64.wrap (H : Nat) = (H : Nat) := by rw [IntKind.wrap_i64]; omega
        have d8 : (i : Int) ≤ (H : Nat) := by omega
        have d9 : (H : Int) ≤ (cap : Nat) := by omega
        have d10 : ¬ H = i := by omega
        have d11 : H - i = E := by omega
        obtain ⟨G, hG⟩ : ∃ G, G = i + N := ⟨_, rfl⟩
        have d12 : (i : Int) + (N : Nat) = (G : Nat) := by omega
        have d13 : IntKind.i64.wrap (G : Nat) = (G : Nat) := by rw [IntKind.wrap_i64]; omega
        have HSu : Hid (N * (k + 1) = G) := by unfold Hid; omega
        have HG : Hid (i < G ∧ G < L + N) := by unfold Hid; omega
        clear hH hG hsucc hi
        have HR : Hid _ := hRd
        clear hRd hE hE'
        gi_wp2
        refine wpIn_wide.2 ?_
        go_region_held3 (fun w' => w'.cell? ⟨Bs, 0, none⟩ = some (.slice (some ⟨b, off, none⟩) L cap) ∧ w'.cell? ⟨Bn, 0, none⟩ = some (.int .i64 (N : Nat))) (exact ⟨c1, c2⟩) (fail)
        have c1d : wr.drew.cell? ⟨Bs, 0, none⟩ = some (.slice (some ⟨b, off, none⟩) L cap) := c1
        gi_wp2
        refine RoundIn.mono HR.out ?_
        rintro e W3 ⟨hs3, (⟨rfl, D2, hJ3, hg3⟩ | ⟨rfl, D2, hJ3, hg3⟩)⟩
        · have HJ3 : Hid (J D2 (List.range (k + 1)) W3) := by rw [HSucc.out]; exact hJ3
          have HSP3 : Hid (Spared D W W3) := Spared.trans HSP.out HGR.out (Kept.undrew (a := wr) hs3)
          have HGR3 : Hid (Grew D D2 W.heap.size) := HGR.out.trans hg3 HSz.out
          have c3 : W3.cell? ⟨Bn, 0, none⟩ = some (.int .i64 (N : Nat)) := (HSP3.out.cell (p := ⟨Bn, 0, none⟩) ⟨HLs.out.2, HRD.out _ HRR.out.2⟩).trans HBn.out
          clear hs3 hJ3 hg3
          gi_wp2
          go_roundw
          case rel => exact ⟨k + 1, D2, by rw [HSu.out]; exact HG.out.2, by rw [HSu.out], HJ3.out, HGR3.out, HSP3.out⟩
          case measure => have := HG.out; simp [intOf]; omega
        · have HSP3 : Hid (Spared D W W3) := Spared.trans HSP.out HGR.out (Kept.undrew (a := wr) hs3)
          have HGR3 : Hid (Grew D D2 W.heap.size) := HGR.out.trans hg3 HSz.out
          clear hs3 hg3
          gi_wp2
          refine bodyPost_ret (results_none rfl _ _ _) rfl ?_
          exact ⟨⟨_, rfl⟩, HSP3.out, .inr ⟨_, D2, trivial, hJ3, HGR3.out⟩⟩
      · obtain rfl : E = N := by omega
        have dB1 : (if ((L - i : Nat) : Int) < (E : Nat) then ((L - i : Nat) : Int) else (E : Nat)) = (E : Nat) := if_neg (by omega)
        have dB2 : (if L - i < E then ((L - i : Nat) : Int) else (E : Nat)) = (E : Nat) := if_neg hmin
        have dB3 : ¬ ((L - i : Nat) : Int) < (E : Nat) := by omega
        have d6 : (i : Int) + (E : Nat) = (H : Nat) := by omega
        have d7 : IntKind.i64.wrap (H : Nat) = (H : Nat) := by rw [IntKind.wrap_i64]; omega
        have d8 : (i : Int) ≤ (H : Nat) := by omega
        have d9 : (H : Int) ≤ (cap : Nat) := by omega
        have d10 : ¬ H = i := by omega
        have d11 : H - i = E := by omega
        obtain ⟨G, hG⟩ : ∃ G, G = i + E := ⟨_, rfl⟩
        have d12 : (i : Int) + (E : Nat) = (G : Nat) := by omega
        have d13 : IntKind.i64.wrap (G : Nat) = (G : Nat) := by rw [IntKind.wrap_i64]; omega
        have HSu : Hid (E * (k + 1) = G) := by unfold Hid; omega
        have HG : Hid (i < G ∧ G < L + E) := by unfold Hid; omega
        clear hH hG hsucc hi
        have HR : Hid _ := hRd
        clear hRd hE hE'
        gi_wp2
        refine wpIn_wide.2 ?_
        go_region_held3 (fun w' => w'.cell? ⟨Bs, 0, none⟩ = some (.slice (some ⟨b, off, none⟩) L cap) ∧ w'.cell? ⟨Bn, 0, none⟩ = some (.int .i64 (E : Nat))) (exact ⟨c1, c2⟩) (fail)
        have c1d : wr.drew.cell? ⟨Bs, 0, none⟩ = some (.slice (some ⟨b, off, none⟩) L cap) := c1
        gi_wp2
        refine RoundIn.mono HR.out ?_
        rintro e W3 ⟨hs3, (⟨rfl, D2, hJ3, hg3⟩ | ⟨rfl, D2, hJ3, hg3⟩)⟩
        · have HJ3 : Hid (J D2 (List.range (k + 1)) W3) := by rw [HSucc.out]; exact hJ3
          have HSP3 : Hid (Spared D W W3) := Spared.trans HSP.out HGR.out (Kept.undrew (a := wr) hs3)
          have HGR3 : Hid (Grew D D2 W.heap.size) := HGR.out.trans hg3 HSz.out
          have c3 : W3.cell? ⟨Bn, 0, none⟩ = some (.int .i64 (E : Nat)) := (HSP3.out.cell (p := ⟨Bn, 0, none⟩) ⟨HLs.out.2, HRD.out _ HRR.out.2⟩).trans HBn.out
          clear hs3 hJ3 hg3
          gi_wp2
          go_roundw
          case rel => exact ⟨k + 1, D2, by rw [HSu.out]; exact HG.out.2, by rw [HSu.out, show H = G by omega], HJ3.out, HGR3.out, HSP3.out⟩
          case measure => have := HG.out; simp [intOf]; omega
        · have HSP3 : Hid (Spared D W W3) := Spared.trans HSP.out HGR.out (Kept.undrew (a := wr) hs3)
          have HGR3 : Hid (Grew D D2 W.heap.size) := HGR.out.trans hg3 HSz.out
          clear hs3 hg3
          gi_wp2
          refine bodyPost_ret (results_none rfl _ _ _) rfl ?_
          exact ⟨⟨_, rfl⟩, HSP3.out, .inr ⟨_, D2, trivial, hJ3, HGR3.out⟩⟩
    · have HCH : Hid (List.range k = List.range (chunks N L)) := by
        have h1 : ¬ k < chunks N L := fun e => hlt ((chunks_lt hN).2 e)
        have h2 : k ≤ chunks N L := by
          by_cases h0 : k = 0
          · omega
          · have : N * (k - 1) < L := by
              have : N * k = N * (k - 1) + N := by rw [← Nat.mul_succ]; congr 1; omega
              omega
            have := (chunks_lt hN).1 this
            omega
        unfold Hid
        rw [show k = chunks N L by omega]
      have d1 : ¬ ((N * k : Nat) : Int) < (L : Nat) := by omega
      generalize N * k = i at *
      gi_wp2
      go_end0
      exact ⟨⟨_, rfl⟩, HSP.out, .inl ⟨D1, by rw [← HCH.out]; exact HJS.out, HGR.out⟩⟩
end Go.Proofs.YtndeknkfljnjoaaDoor
