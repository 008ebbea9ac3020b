/- The law SlotsActs over the contracts of package slots and of the document's board. -/
import Derived.Test.YthpodknhidgedaaDoorActs9
import Derived.Deep.RegionLaw
import Derived.Deep.CutBlock
import Derived.Deep.RegionHeld3
namespace Go.Proofs.YthpodknhidgedaaDoor
open Go.RowKit
set_option linter.unusedVariables false

structure ActI (w : World) (q p b f cap n rp rb : Nat) (B : Nat → Bool) (wr : World) : Prop where
  board : BoardAt wr q p b f cap n B
  ref : RefB wr rp rb n B
  bel : Below w.heap.size w wr
set_option maxRecDepth 20000 in
set_option maxHeartbeats 8000000 in
theorem slotsActs_walk (n : Int) (a1 : Option Addr) (len1 cap1 : Nat) (z1 : List Int) (a2 : Option Addr) (len2 cap2 : Nat) (c2 : List Sa) (w : World) (ht : Steps w) (f0 : (Lit.int .i64 n).wf = true) (f1 : IsRow .i64 w a1 len1 cap1 z1) (f2 : Sacts w (.slice a2 len2 cap2) c2) :
    Calls Tryd.prog 3 #[.int .i64 n, .slice a1 len1 cap1, .slice a2 len2 cap2] w fun e w' => e = .returned (.bool true) ∧ Below w.heap.size w w' := by
  obtain ⟨i0, hi, hz0, hz1, hz2⟩ := info_parts Tryd.infoI64
  have hn : I64 n := by simpa [Lit.wf, IntKind.min, IntKind.max, IntKind.signed, IntKind.bits, I64] using f0
  have HT : Hid (Steps w) := ht
  have H0 : Hid (0 < w.heap.size) := ht.pos
  have HNU : Hid (Nums w (.slice a1 len1 cap1) (z1.take len1)) := Nums.ofRow f1
  have hlen : len1 ≤ 9223372036854775807 := by have := HNU.out.capLe; unfold maxLen at this; omega
  have hlen2 : len2 ≤ 9223372036854775807 := by
    obtain ⟨h1, _, _, e, _⟩ := f2
    simp only [Value.slice.injEq] at e
    rw [← e.2.1] at h1
    unfold maxLen at h1; omega
  have HA : Hid (Sacts w (.slice a2 len2 cap2) c2) := f2
  have HAw : Hid (Calls Tryd.prog 7 #[] w fun x w' => x = .returned (.bool true) ∧ Below w.heap.size w w') := awake_any w ht
  have hn1 := hn.1
  have hn2 := hn.2
  clear f0 f1 f2 ht hn
  by_cases hl : 60 < len1 ∨ 30 < len2
  · have HAw2 : Hid (∀ W, Below w.heap.size w W → Calls Tryd.prog 7 #[] W fun x w' => x = .returned (.bool true) ∧ Below W.heap.size W w') := fun W hW => awake_any W (HT.out.below hW)
    by_cases hl1 : 60 < len1
    · go_enter Tryd.func3, Tryd.ntmps3
      go_wp2_with fail
      refine HAw.out.mono ?_
      rintro e w1 ⟨rfl, hB⟩
      have HB : Hid (Below w.heap.size w w1) := hB
      clear hB
      go_wp2_with fail
      refine (HAw2.out _ HB.out).mono ?_
      rintro e w2 ⟨rfl, hB2⟩
      have HB2 : Hid (Below w.heap.size w w2) := HB.out.trans (hB2.mono HB.out.size)
      clear hB2
      go_wp2
      go_ret
      exact ⟨rfl, HB2.out⟩
    · have hl2 : 30 < len2 := by omega
      go_enter Tryd.func3, Tryd.ntmps3
      go_wp2_with fail
      refine HAw.out.mono ?_
      rintro e w1 ⟨rfl, hB⟩
      have HB : Hid (Below w.heap.size w w1) := hB
      clear hB
      go_wp2_with fail
      refine (HAw2.out _ HB.out).mono ?_
      rintro e w2 ⟨rfl, hB2⟩
      have HB2 : Hid (Below w.heap.size w w2) := HB.out.trans (hB2.mono HB.out.size)
      clear hB2
      go_wp2
      go_ret
      exact ⟨rfl, HB2.out⟩
  · have hl1 : len1 ≤ 60 := by omega
    have hl2 : len2 ≤ 30 := by omega
    clear hl
    by_cases hrange : n < 1 ∨ 65536 < n
    · go_enter Tryd.func3, Tryd.ntmps3
      go_wp2_with fail
      refine HAw.out.mono ?_
      rintro e w1 ⟨rfl, hB⟩
      have HB : Hid (Below w.heap.size w w1) := hB
      have HN : Hid (Calls Tryd.prog 8 #[.int .i64 n, .slice a1 len1 cap1] w1 fun x w' => x = .returned (.tuple #[.pointer none, .int .i64 2]) ∧ Below w1.heap.size w1 w') := newB_off w1 n _ hn1 hn2 (by have := hB.size; have := H0.out; omega) hrange
      have HRN : Hid (∀ W, Calls Tryd.prog 9 #[.int .i64 n, .slice a1 len1 cap1] W fun x w' => x = .returned (.pointer none) ∧ w' = W) := fun W => refNew_off W n _ hrange
      clear hB hrange
      go_wp2_with fail
      refine HN.out.mono ?_
      rintro e w2 ⟨rfl, hB2⟩
      have HB2 : Hid (Below w.heap.size w w2) := HB.out.trans (hB2.mono HB.out.size)
      clear hB2
      go_wp2_with fail
      refine (HRN.out w2).mono ?_
      rintro e w3 ⟨rfl, rfl⟩
      go_wp2
      go_ret
      exact ⟨rfl, HB2.out⟩
    · obtain ⟨N, hN⟩ : ∃ N : Nat, n = (N : Int) := ⟨n.toNat, by rw [Int.toNat_of_nonneg]; omega⟩
      subst hN
      have hN1 : 1 ≤ N := by omega
      have hN2 : N ≤ 65536 := by omega
      have hd60 : ((60 : Int) < (len1 : Nat)) = False := eq_false (by omega)
      have hd30 : ((30 : Int) < (len2 : Nat)) = False := eq_false (by omega)
      clear hrange hn1 hn2
      go_enter Tryd.func3, Tryd.ntmps3
      go_wp2_with fail
      refine HAw.out.mono ?_
      rintro e w1 ⟨rfl, hB⟩
      have HB : Hid (Below w.heap.size w w1) := hB
      have HNw : Hid (Calls Tryd.prog 8 #[.int .i64 (N : Nat), .slice a1 len1 cap1] w1 fun x w' => NewIs w1 N (z1.take len1) x w') := newB_any w1 N _ _ hN1 hN2 (HT.out.below hB) (HNU.out.kept hB)
      clear hB
      go_wp2_with fail
      refine HNw.out.mono ?_
      rintro e w2 ⟨hB2, hcase⟩
      have HB2 : Hid (Below w.heap.size w w2) := HB.out.trans (hB2.mono HB.out.size)
      have HRN : Hid (Calls Tryd.prog 9 #[.int .i64 (N : Nat), .slice a1 len1 cap1] w2 fun x w' => NewR w2 N (z1.take len1) x w') := refNew9_any w2 N _ _ hN1 hN2 (HNU.out.kept HB2.out)
      clear HNw
      rcases hcase with ⟨hg, q, p, b, f, cap, rfl, hqb, hqf, hBd⟩ | ⟨hg, rfl⟩
      · have HG : Hid (Good N (z1.take len1)) := hg
        have HP : Hid (w.heap.size ≤ b ∧ w.heap.size ≤ f) := ⟨Nat.le_trans HB.out.size hqb, Nat.le_trans HB.out.size hqf⟩
        have HP0 : Hid (0 < b ∧ 0 < f) := by have h1 := H0.out; have h2 := HP.out; exact ⟨by omega, by omega⟩
        have HBD : Hid (BoardAt w2 q p b f cap N (takenB (z1.take len1))) := hBd
        clear hg hqb hqf hBd hB2 HB
        go_wp2_with fail
        refine HRN.out.mono ?_
        rintro e w3 ⟨hB3, hcase⟩
        obtain ⟨_, rp, rb, rfl, hrb, hRf⟩ | ⟨hg2, _⟩ := hcase
        rotate_left
        · exact absurd HG.out hg2
        have HB3 : Hid (Below w.heap.size w w3) := HB2.out.trans (hB3.mono HB2.out.size)
        have HRB : Hid (w.heap.size ≤ rb) := Nat.le_trans HB2.out.size hrb
        have HI0 : Hid (ActI w q p b f cap N rp rb (takenB (z1.take len1)) w3) := ⟨HBD.out.below hB3, hRf, HB3.out⟩
        have HSZ : Hid (∀ W B, BoardAt W q p b f cap N B → Calls Tryd.prog 10 #[.pointer (some ⟨q, 0, none⟩)] W fun x w' => x = .returned (.int .i64 (N : Nat)) ∧ w' = W) := fun W B h => size_any W q p b f cap N B h
        clear hB3 hrb hRf HBD HRN HB2
        go_wp2_with fail
        refine (HSZ.out w3 _ HI0.out.board).mono ?_
        rintro e w4 ⟨rfl, rfl⟩
        by_cases h400 : 400 < N
        · go_wp2
          go_ret
          exact ⟨rfl, HB3.out⟩
        · have hN4 : N ≤ 400 := by omega
          have hd4 : ((400 : Int) < (N : Nat)) = False := eq_false (by omega)
          clear h400 HSZ
          go_wp2_with fail
          go_loopw [10] (fun i wr => ∃ (j : Nat) (B : Nat → Bool), i = .int .i64 (j : Nat) ∧ j ≤ len2 ∧ Hid (ActI w q p b f cap N rp rb B wr)) (fun i _ => len2 - (intOf i).toNat)
          case atStart => exact ⟨0, _, rfl, Nat.zero_le _, HI0⟩
          case round =>
            obtain ⟨j, B, rfl, hj, hI⟩ := hrel
            by_cases hlt : j < len2
            · obtain ⟨ab, ao, c, rfl, hab, hcs, hnl, hng, hk64, hkk64⟩ := HA.out.at hlt
              obtain ⟨la, lc, hlv⟩ := hnl.shape
              obtain ⟨kd, kk, lv, ls⟩ := c
              simp only at hlv hnl hng hk64 hkk64
              subst hlv
              have hcw : ∀ i v, [Value.int .i64 kd, .int .i64 kk, .slice la ls.length lc][i]? = some v → wr.cell? ⟨ab, ao + j * 3 + i, none⟩ = some v := fun i v h => (hI.out.bel.cell (p := ⟨ab, ao + j * 3 + i, none⟩) hab).trans (hcs i v h)
              have q0 : wr.cell? ⟨ab, ao + j * 3, none⟩ = some (.int .i64 kd) := hcw 0 _ rfl
              have q1 : wr.cell? ⟨ab, ao + j * 3 + 1, none⟩ = some (.int .i64 kk) := hcw 1 _ rfl
              have q2 : wr.cell? ⟨ab, ao + j * 3 + 2, none⟩ = some (.slice la ls.length lc) := hcw 2 _ rfl
              have hll : ls.length ≤ 9223372036854775807 := by have := hnl.2.1; unfold maxLen at this; omega
              have HNL : Hid (Nums w (.slice la ls.length lc) ls) := hnl
              have HNG : Hid (∀ g, (Value.slice la ls.length lc).ownBlock = some g → ls ≠ [] → g < w.heap.size) := hng
              have hk1 := hk64.1
              have hk2 := hk64.2
              have hkk1 := hkk64.1
              have hkk2 := hkk64.2
              clear hcs hcw hnl hng hab hk64 hkk64
              have hbl9 : Below wr.heap.size wr (wr.alloc (.cells #[.int .i64 kd, .int .i64 kk, .slice la ls.length lc] 33)) := (Below.refl _ _).alloc (Nat.le_refl _) _
              obtain ⟨X, hX⟩ : ∃ X, X = wr.heap.size := ⟨_, rfl⟩
              obtain ⟨W1, hW1⟩ : ∃ W1, W1 = wr.alloc (.cells #[.int .i64 kd, .int .i64 kk, .slice la ls.length lc] 33) := ⟨_, rfl⟩
              have HW1 : Hid (W1 = wr.alloc (.cells #[.int .i64 kd, .int .i64 kk, .slice la ls.length lc] 33)) := hW1
              have HXE : Hid (X = wr.heap.size) := hX
              have HH1 : Hid (HalfW w q p b f cap N rp rb X kd kk (.slice la ls.length lc) B B W1) := by
                unfold Hid
                rw [hW1, hX]
                exact ⟨hI.out.board.below hbl9, hI.out.ref.below hbl9, heap_alloc_new wr _, hI.out.bel.trans (hbl9.mono hI.out.bel.size)⟩
              have HBw : Hid (Below w.heap.size w wr) := hI.out.bel
              have HST : Hid (∀ W, Below w.heap.size w W → Steps W) := fun W h => HT.out.kept h H0.out
              clear hbl9 hW1 hX
              by_cases h60 : 60 < ls.length
              · have HB1 := HH1.out.bel
                rw [HW1.out] at HB1
                have HB2 : Hid (Below w.heap.size w (wr.alloc (.cells #[.int .i64 kd, .int .i64 kk, .slice la ls.length lc] 33))) := HB1
                clear HB1
                go_wp2
                go_ret
                exact ⟨rfl, HB2.out⟩
              · have hl60 : ls.length ≤ 60 := by omega
                have hd60b : ((60 : Int) < (ls.length : Nat)) = False := eq_false (by omega)
                clear h60
                have x0 : W1.cell? ⟨X, 0, none⟩ = some (.int .i64 kd) := by rw [cell_of_row W1 X _ _ _ _ HH1.out.box]; rfl
                have x1 : W1.cell? ⟨X, 1, none⟩ = some (.int .i64 kk) := by rw [cell_of_row W1 X _ _ _ _ HH1.out.box]; rfl
                have x2 : W1.cell? ⟨X, 2, none⟩ = some (.slice la ls.length lc) := by rw [cell_of_row W1 X _ _ _ _ HH1.out.box]; rfl
                go_upto_block 2 with fail
                rw [← HXE.out, ← HW1.out]
                go_cut [12] from 66 to 188 (fun s12 wx => s12 = .bool true ∧ ∃ C : Nat → Bool, Hid (HalfW w q p b f cap N rp rb X kd kk (.slice la ls.length lc) C C wx))
                case rest =>
                  obtain ⟨rfl, B', HH5⟩ := hcut
                  clear x0 x1 x2 HH1 HW1 HXE
                  have HASK := HH5.out.asks (by omega)
                  obtain ⟨F5, hF5⟩ : ∃ F5, F5 = N - cnt B' 0 N := ⟨_, rfl⟩
                  rw [← hF5] at HASK
                  have HA1 : Hid (∀ W, Below wc.heap.size wc W → Calls Tryd.prog 18 #[.pointer (some ⟨q, 0, none⟩)] W fun x w' => x = .returned (.int .i64 (F5 : Nat)) ∧ Below wc.heap.size wc w') := HASK.1
                  have HA2 : Hid (∀ W, Below wc.heap.size wc W → Calls Tryd.prog 19 #[.pointer (some ⟨rp, 0, none⟩)] W fun x w' => x = .returned (.int .i64 (F5 : Nat)) ∧ Below wc.heap.size wc w') := HASK.2.1
                  have HA3 : Hid (∀ W, Below wc.heap.size wc W → Calls Tryd.prog 20 #[.pointer (some ⟨q, 0, none⟩)] W fun x w' => ∃ u, x = .returned u ∧ Nums w' u (frL B' N (wn N)) ∧ Below wc.heap.size wc w' ∧ Below W.heap.size W w') := HASK.2.2.1
                  have HA4 : Hid (∀ W, Below wc.heap.size wc W → Calls Tryd.prog 21 #[.pointer (some ⟨rp, 0, none⟩)] W fun x w' => ∃ u, x = .returned u ∧ Nums w' u (frL B' N (wn N)) ∧ Below wc.heap.size wc w' ∧ Below W.heap.size W w') := HASK.2.2.2.1
                  have HA6 : Hid (∀ (W : World) (u v : Value), Nums W u (frL B' N (wn N)) → Nums W v (frL B' N (wn N)) → Below wc.heap.size wc W → Calls Tryd.prog 17 #[u, v] W fun x w' => x = .returned (.bool true) ∧ Below wc.heap.size wc w') := asks_ints (frL B' N (wn N))
                  have HIS := HASK.2.2.2.2.1
                  have HCL := HASK.2.2.2.2.2
                  clear HASK hF5
                  by_cases hin : 0 ≤ kk ∧ kk < (N : Int)
                  · obtain ⟨K, hK⟩ : ∃ K : Nat, kk = (K : Int) := ⟨kk.toNat, by rw [Int.toNat_of_nonneg hin.1]⟩
                    subst hK
                    have hKN : K < N := by omega
                    rw [decide_eq_true hin, Bool.true_and, Int.toNat_natCast] at HIS
                    have HA5 : Hid (∀ W, Below wc.heap.size wc W → Calls Tryd.prog 22 #[.pointer (some ⟨q, 0, none⟩), .int .i64 (K : Nat)] W fun x w' => x = .returned (.bool (B' K)) ∧ Below wc.heap.size wc w') := HIS
                    have HS : Hid (∀ W, Below wc.heap.size wc W → World.cell? W ⟨X, 1, none⟩ = some (.int .i64 (K : Nat)) ∧ World.cell? W ⟨rp, 0, none⟩ = some (.slice (some ⟨rb, 0, none⟩) N N) ∧ World.cell? W ⟨rb, K, none⟩ = some (.bool (B' K))) := fun W hW => ⟨(HCL W hW).1, (HCL W hW).2.2.1, (HCL W hW).2.2.2 K hKN⟩
                    clear HIS HCL hin
                    generalize B' K = bb at *
                    go_wp2_with (fail)
                    go_region_held3 (fun w' => World.cell? w' ⟨X, 1, none⟩ = some (.int .i64 (K : Nat)) ∧ World.cell? w' ⟨rp, 0, none⟩ = some (.slice (some ⟨rb, 0, none⟩) N N) ∧ World.cell? w' ⟨rb, K, none⟩ = some (.bool bb)) (first | exact HS.out _ (Below.refl _ _) | exact HS.out _ (Below.refl _ _).drew | exact HS.out _ HB31.out | exact HS.out _ HB32.out | exact HS.out _ HB33.out | exact HS.out _ HB34.out | exact HS.out _ HB35.out | exact HS.out _ HB36.out) (first
                      | (go_at_call 18; refine (HA1.out _ (Below.refl _ _).drew).mono ?_; rintro e31 w31 ⟨rfl, hb⟩; have HB31 : Hid (Below wc.heap.size wc w31) := hb; clear hb)
                      | (go_at_call 19; refine (HA2.out _ HB31.out).mono ?_; rintro e32 w32 ⟨rfl, hb⟩; have HB32 : Hid (Below wc.heap.size wc w32) := hb; clear hb)
                      | (go_at_call 20; refine (HA3.out _ HB32.out).mono ?_; rintro e33 w33 ⟨u33, rfl, hu, hb, -⟩; have HB33 : Hid (Below wc.heap.size wc w33) := hb; have HU33 : Hid (Nums w33 u33 (frL B' N (wn N))) := hu; clear hb hu)
                      | (go_at_call 21; refine (HA4.out _ HB33.out).mono ?_; rintro e34 w34 ⟨u34, rfl, hu, hb, hb2⟩; have HB34 : Hid (Below wc.heap.size wc w34) := hb; have HU34 : Hid (Nums w34 u34 (frL B' N (wn N))) := hu; have HU33b : Hid (Nums w34 u33 (frL B' N (wn N))) := HU33.out.kept hb2; clear hb hu hb2)
                      | (go_at_call 17; refine (HA6.out _ _ _ HU33b.out HU34.out HB34.out).mono ?_; rintro e35 w35 ⟨rfl, hb⟩; have HB35 : Hid (Below wc.heap.size wc w35) := hb; clear hb)
                      | (go_at_call 22; refine (HA5.out _ HB35.out).mono ?_; rintro e36 w36 ⟨rfl, hb⟩; have HB36 : Hid (Below wc.heap.size wc w36) := hb; clear hb))
                    all_goals
                      have HI6 : Hid (ActI w q p b f cap N rp rb B' w36) := ⟨(HH5.out.below HB36.out).board, (HH5.out.below HB36.out).ref, (HH5.out.below HB36.out).bel⟩
                      go_wp2
                      go_roundw
                      case rel => exact ⟨j + 1, B', by go_num, by omega, HI6⟩
                      case measure => simp [intOf]; omega
                  · have HA5 : Hid (∀ W, Below wc.heap.size wc W → Calls Tryd.prog 22 #[.pointer (some ⟨q, 0, none⟩), .int .i64 kk] W fun x w' => x = .returned (.bool false) ∧ Below wc.heap.size wc w') := by
                      rw [decide_eq_false hin, Bool.false_and] at HIS
                      exact HIS
                    have HS : Hid (∀ W, Below wc.heap.size wc W → World.cell? W ⟨X, 1, none⟩ = some (.int .i64 kk) ∧ World.cell? W ⟨rp, 0, none⟩ = some (.slice (some ⟨rb, 0, none⟩) N N)) := fun W hW => ⟨(HCL W hW).1, (HCL W hW).2.2.1⟩
                    clear HIS HCL
                    by_cases hneg : kk < 0
                    · have hb0 : (0 ≤ kk) = False := eq_false (by omega)
                      clear hin hneg
                      go_wp2_with (fail)
                      refine wp_region_held_drew (S := fun w' : World => World.cell? w' ⟨X, 1, none⟩ = some (.int .i64 kk) ∧ World.cell? w' ⟨rp, 0, none⟩ = some (.slice (some ⟨rb, 0, none⟩) N N)) (by kernel_rfl) (HS.out _ (Below.refl _ _).drew) (fun hHeld => ?_)
                      refine wpAnyH_take (i := 0) (v := .bool true) rfl (by kernel_rfl) (by kernel_rfl) (by kernel_rfl) (fun _ _ _ h => h) (Or.inl ⟨by rfl, fun w' hSw => ?_⟩) hHeld ?_
                      · (try dsimp only at hSw)
                        go_simp
                      simp only [Act.put, List.getElem_toArray, List.getElem_cons_zero, List.setIfInBounds_toArray, List.set_cons_zero, List.set_cons_succ]
                      refine wpAnyH_take (i := 1) (v := .bool false) rfl (by kernel_rfl) (by kernel_rfl) (by kernel_rfl) (fun _ _ _ h => h) (Or.inl ⟨by rfl, fun w' hSw => ?_⟩) hHeld ?_
                      · (try dsimp only at hSw)
                        go_simp
                      simp only [Act.put, List.getElem_toArray, List.getElem_cons_succ, List.getElem_cons_zero, List.setIfInBounds_toArray, List.set_cons_zero, List.set_cons_succ]
                      refine wpAnyH_take (i := 2) (v := .bool false) rfl (by kernel_rfl) (by kernel_rfl) (by kernel_rfl) (fun _ _ _ h => h) (Or.inl ⟨by rfl, fun w' hSw => ?_⟩) hHeld ?_
                      · (try dsimp only at hSw)
                        go_simp
                      simp only [Act.put, List.getElem_toArray, List.getElem_cons_succ, List.getElem_cons_zero, List.setIfInBounds_toArray, List.set_cons_zero, List.set_cons_succ]
                      refine wpAnyH_take (i := 3) (v := .pointer (some ⟨q, 0, none⟩)) rfl (by kernel_rfl) (by kernel_rfl) (by kernel_rfl) (fun _ _ _ h => h) (Or.inl ⟨by rfl, fun w' hSw => ?_⟩) hHeld ?_
                      · (try dsimp only at hSw)
                        go_simp
                      simp only [Act.put, List.getElem_toArray, List.getElem_cons_succ, List.getElem_cons_zero, List.setIfInBounds_toArray, List.set_cons_zero, List.set_cons_succ]
                      refine wpAnyH_take (i := 5) (v := .pointer (some ⟨rp, 0, none⟩)) rfl (by kernel_rfl) (by kernel_rfl) (by kernel_rfl) (fun _ _ _ h => h) (Or.inl ⟨by rfl, fun w' hSw => ?_⟩) hHeld ?_
                      · (try dsimp only at hSw)
                        go_simp
                      simp only [Act.put, List.getElem_toArray, List.getElem_cons_succ, List.getElem_cons_zero, List.setIfInBounds_toArray, List.set_cons_zero, List.set_cons_succ]
                      refine wpAnyH_ready (rs := [4]) (by kernel_rfl) (by simp) ?_
                      refine AllReadyH.cons rfl (fun K hK => ?_) AllReadyH.nil
                      go_simp
                      go_wp2_with (go_at_call 18; refine (HA1.out _ (Below.refl _ _).drew).mono ?_; rintro e31 w31 ⟨rfl, hb⟩; have HB31 : Hid (Below wc.heap.size wc w31) := hb; clear hb)
                      have hS31 : (fun w' : World => World.cell? w' ⟨X, 1, none⟩ = some (.int .i64 kk) ∧ World.cell? w' ⟨rp, 0, none⟩ = some (.slice (some ⟨rb, 0, none⟩) N N)) w31 := HS.out _ HB31.out
                      refine hK.out _ _ hS31 (fun _ => ?_)
                      clear hK K
                      refine wpAnyH_ready (rs := [6]) (by kernel_rfl) (by simp) ?_
                      refine AllReadyH.cons rfl (fun K hK => ?_) AllReadyH.nil
                      go_simp
                      go_wp2_with (go_at_call 19; refine (HA2.out _ HB31.out).mono ?_; rintro e32 w32 ⟨rfl, hb⟩; have HB32 : Hid (Below wc.heap.size wc w32) := hb; clear hb)
                      have hS32 : (fun w' : World => World.cell? w' ⟨X, 1, none⟩ = some (.int .i64 kk) ∧ World.cell? w' ⟨rp, 0, none⟩ = some (.slice (some ⟨rb, 0, none⟩) N N)) w32 := HS.out _ HB32.out
                      refine hK.out _ _ hS32 (fun _ => ?_)
                      clear hK K
                      refine wpAnyH_take (i := 7) (v := .bool false) rfl (by kernel_rfl) (by kernel_rfl) (by kernel_rfl) (fun _ _ _ h => h) (Or.inl ⟨by rfl, fun w' hSw => ?_⟩) hS32 ?_
                      · (try dsimp only at hSw)
                        go_simp
                      simp only [Act.put, List.getElem_toArray, List.getElem_cons_succ, List.getElem_cons_zero, List.setIfInBounds_toArray, List.set_cons_zero, List.set_cons_succ]
                      refine wpAnyH_take (i := 8) (v := .bool false) rfl (by kernel_rfl) (by kernel_rfl) (by kernel_rfl) (fun _ _ _ h => h) (Or.inl ⟨by rfl, fun w' hSw => ?_⟩) hS32 ?_
                      · (try dsimp only at hSw)
                        go_simp
                      simp only [Act.put, List.getElem_toArray, List.getElem_cons_succ, List.getElem_cons_zero, List.setIfInBounds_toArray, List.set_cons_zero, List.set_cons_succ]
                      refine wpAnyH_take (i := 9) (v := .bool false) rfl (by kernel_rfl) (by kernel_rfl) (by kernel_rfl) (fun _ _ _ h => h) (Or.inl ⟨by rfl, fun w' hSw => ?_⟩) hS32 ?_
                      · (try dsimp only at hSw)
                        go_simp
                      simp only [Act.put, List.getElem_toArray, List.getElem_cons_succ, List.getElem_cons_zero, List.setIfInBounds_toArray, List.set_cons_zero, List.set_cons_succ]
                      refine wpAnyH_take (i := 10) (v := .pointer (some ⟨q, 0, none⟩)) rfl (by kernel_rfl) (by kernel_rfl) (by kernel_rfl) (fun _ _ _ h => h) (Or.inl ⟨by rfl, fun w' hSw => ?_⟩) hS32 ?_
                      · (try dsimp only at hSw)
                        go_simp
                      simp only [Act.put, List.getElem_toArray, List.getElem_cons_succ, List.getElem_cons_zero, List.setIfInBounds_toArray, List.set_cons_zero, List.set_cons_succ]
                      refine wpAnyH_take (i := 12) (v := .pointer (some ⟨rp, 0, none⟩)) rfl (by kernel_rfl) (by kernel_rfl) (by kernel_rfl) (fun _ _ _ h => h) (Or.inl ⟨by rfl, fun w' hSw => ?_⟩) hS32 ?_
                      · (try dsimp only at hSw)
                        go_simp
                      simp only [Act.put, List.getElem_toArray, List.getElem_cons_succ, List.getElem_cons_zero, List.setIfInBounds_toArray, List.set_cons_zero, List.set_cons_succ]
                      refine wpAnyH_ready (rs := [11]) (by kernel_rfl) (by simp) ?_
                      refine AllReadyH.cons rfl (fun K hK => ?_) AllReadyH.nil
                      go_simp
                      go_wp2_with (go_at_call 20; refine (HA3.out _ HB32.out).mono ?_; rintro e33 w33 ⟨u33, rfl, hu, hb, -⟩; have HB33 : Hid (Below wc.heap.size wc w33) := hb; have HU33 : Hid (Nums w33 u33 (frL B' N (wn N))) := hu; clear hb hu)
                      have hS33 : (fun w' : World => World.cell? w' ⟨X, 1, none⟩ = some (.int .i64 kk) ∧ World.cell? w' ⟨rp, 0, none⟩ = some (.slice (some ⟨rb, 0, none⟩) N N)) w33 := HS.out _ HB33.out
                      refine hK.out _ _ hS33 (fun _ => ?_)
                      clear hK K
                      refine wpAnyH_ready (rs := [13]) (by kernel_rfl) (by simp) ?_
                      refine AllReadyH.cons rfl (fun K hK => ?_) AllReadyH.nil
                      go_simp
                      go_wp2_with (go_at_call 21; refine (HA4.out _ HB33.out).mono ?_; rintro e34 w34 ⟨u34, rfl, hu, hb, hb2⟩; have HB34 : Hid (Below wc.heap.size wc w34) := hb; have HU34 : Hid (Nums w34 u34 (frL B' N (wn N))) := hu; have HU33b : Hid (Nums w34 u33 (frL B' N (wn N))) := HU33.out.kept hb2; clear hb hu hb2)
                      have hS34 : (fun w' : World => World.cell? w' ⟨X, 1, none⟩ = some (.int .i64 kk) ∧ World.cell? w' ⟨rp, 0, none⟩ = some (.slice (some ⟨rb, 0, none⟩) N N)) w34 := HS.out _ HB34.out
                      refine hK.out _ _ hS34 (fun _ => ?_)
                      clear hK K
                      refine wpAnyH_ready (rs := [14]) (by kernel_rfl) (by simp) ?_
                      refine AllReadyH.cons rfl (fun K hK => ?_) AllReadyH.nil
                      go_simp
                      go_wp2_with (go_at_call 17; refine (HA6.out _ _ _ HU33b.out HU34.out HB34.out).mono ?_; rintro e35 w35 ⟨rfl, hb⟩; have HB35 : Hid (Below wc.heap.size wc w35) := hb; clear hb)
                      have hS35 : (fun w' : World => World.cell? w' ⟨X, 1, none⟩ = some (.int .i64 kk) ∧ World.cell? w' ⟨rp, 0, none⟩ = some (.slice (some ⟨rb, 0, none⟩) N N)) w35 := HS.out _ HB35.out
                      refine hK.out _ _ hS35 (fun _ => ?_)
                      clear hK K
                      refine wpAnyH_take (i := 15) (v := .bool false) rfl (by kernel_rfl) (by kernel_rfl) (by kernel_rfl) (fun _ _ _ h => h) (Or.inl ⟨by rfl, fun w' hSw => ?_⟩) hS35 ?_
                      · (try dsimp only at hSw)
                        go_simp
                      simp only [Act.put, List.getElem_toArray, List.getElem_cons_succ, List.getElem_cons_zero, List.setIfInBounds_toArray, List.set_cons_zero, List.set_cons_succ]
                      refine wpAnyH_take (i := 16) (v := .bool false) rfl (by kernel_rfl) (by kernel_rfl) (by kernel_rfl) (fun _ _ _ h => h) (Or.inl ⟨by rfl, fun w' hSw => ?_⟩) hS35 ?_
                      · (try dsimp only at hSw)
                        go_simp
                      simp only [Act.put, List.getElem_toArray, List.getElem_cons_succ, List.getElem_cons_zero, List.setIfInBounds_toArray, List.set_cons_zero, List.set_cons_succ]
                      refine wpAnyH_take (i := 17) (v := .bool false) rfl (by kernel_rfl) (by kernel_rfl) (by kernel_rfl) (fun _ _ _ h => h) (Or.inl ⟨by rfl, fun w' hSw => ?_⟩) hS35 ?_
                      · (try dsimp only at hSw)
                        go_simp
                      simp only [Act.put, List.getElem_toArray, List.getElem_cons_succ, List.getElem_cons_zero, List.setIfInBounds_toArray, List.set_cons_zero, List.set_cons_succ]
                      refine wpAnyH_take (i := 18) (v := .pointer (some ⟨q, 0, none⟩)) rfl (by kernel_rfl) (by kernel_rfl) (by kernel_rfl) (fun _ _ _ h => h) (Or.inl ⟨by rfl, fun w' hSw => ?_⟩) hS35 ?_
                      · (try dsimp only at hSw)
                        go_simp
                      simp only [Act.put, List.getElem_toArray, List.getElem_cons_succ, List.getElem_cons_zero, List.setIfInBounds_toArray, List.set_cons_zero, List.set_cons_succ]
                      refine wpAnyH_take (i := 19) (v := .pointer (some ⟨X, 1, none⟩)) rfl (by kernel_rfl) (by kernel_rfl) (by kernel_rfl) (fun _ _ _ h => h) (Or.inl ⟨by rfl, fun w' hSw => ?_⟩) hS35 ?_
                      · (try dsimp only at hSw)
                        go_simp
                      simp only [Act.put, List.getElem_toArray, List.getElem_cons_succ, List.getElem_cons_zero, List.setIfInBounds_toArray, List.set_cons_zero, List.set_cons_succ]
                      refine wpAnyH_take (i := 20) (v := .int .i64 kk) rfl (by kernel_rfl) (by kernel_rfl) (by kernel_rfl) (fun _ _ _ h => h) (Or.inl ⟨by rfl, fun w' hSw => ?_⟩) hS35 ?_
                      · (try dsimp only at hSw)
                        go_simp
                      simp only [Act.put, List.getElem_toArray, List.getElem_cons_succ, List.getElem_cons_zero, List.setIfInBounds_toArray, List.set_cons_zero, List.set_cons_succ]
                      refine wpAnyH_take (i := 22) (v := .pointer (some ⟨X, 1, none⟩)) rfl (by kernel_rfl) (by kernel_rfl) (by kernel_rfl) (fun _ _ _ h => h) (Or.inl ⟨by rfl, fun w' hSw => ?_⟩) hS35 ?_
                      · (try dsimp only at hSw)
                        go_simp
                      simp only [Act.put, List.getElem_toArray, List.getElem_cons_succ, List.getElem_cons_zero, List.setIfInBounds_toArray, List.set_cons_zero, List.set_cons_succ]
                      refine wpAnyH_take (i := 23) (v := .int .i64 kk) rfl (by kernel_rfl) (by kernel_rfl) (by kernel_rfl) (fun _ _ _ h => h) (Or.inl ⟨by rfl, fun w' hSw => ?_⟩) hS35 ?_
                      · (try dsimp only at hSw)
                        go_simp
                      simp only [Act.put, List.getElem_toArray, List.getElem_cons_succ, List.getElem_cons_zero, List.setIfInBounds_toArray, List.set_cons_zero, List.set_cons_succ]
                      refine wpAnyH_take (i := 24) (v := .bool false) rfl (by kernel_rfl) (by kernel_rfl) (by kernel_rfl) (fun _ _ _ h => h) (Or.inl ⟨by rfl, fun w' hSw => ?_⟩) hS35 ?_
                      · (try dsimp only at hSw)
                        go_simp
                      simp only [Act.put, List.getElem_toArray, List.getElem_cons_succ, List.getElem_cons_zero, List.setIfInBounds_toArray, List.set_cons_zero, List.set_cons_succ]
                      refine wpAnyH_ready (rs := [21]) (by kernel_rfl) (by simp) ?_
                      refine AllReadyH.cons rfl (fun K hK => ?_) AllReadyH.nil
                      go_simp
                      go_wp2_with (go_at_call 22; refine (HA5.out _ HB35.out).mono ?_; rintro e36 w36 ⟨rfl, hb⟩; have HB36 : Hid (Below wc.heap.size wc w36) := hb; clear hb)
                      have hS36 : (fun w' : World => World.cell? w' ⟨X, 1, none⟩ = some (.int .i64 kk) ∧ World.cell? w' ⟨rp, 0, none⟩ = some (.slice (some ⟨rb, 0, none⟩) N N)) w36 := HS.out _ HB36.out
                      refine hK.out _ _ hS36 (fun _ => ?_)
                      clear hK K
                      refine wpAnyH_take (i := 25) (v := .bool false) rfl (by kernel_rfl) (by kernel_rfl) (by kernel_rfl) (fun _ _ _ h => h) (Or.inl ⟨by rfl, fun w' hSw => ?_⟩) hS36 ?_
                      · (try dsimp only at hSw)
                        go_simp
                      simp only [Act.put, List.getElem_toArray, List.getElem_cons_succ, List.getElem_cons_zero, List.setIfInBounds_toArray, List.set_cons_zero, List.set_cons_succ]
                      refine wpAnyH_take (i := 26) (v := undef) rfl (by kernel_rfl) (by kernel_rfl) (by kernel_rfl) (fun _ _ _ h => h) (Or.inr ⟨by rfl, rfl⟩) hS36 ?_
                      simp only [Act.put, List.getElem_toArray, List.getElem_cons_succ, List.getElem_cons_zero, List.setIfInBounds_toArray, List.set_cons_zero, List.set_cons_succ]
                      refine wpAnyH_take (i := 27) (v := undef) rfl (by kernel_rfl) (by kernel_rfl) (by kernel_rfl) (fun _ _ _ h => h) (Or.inr ⟨by rfl, rfl⟩) hS36 ?_
                      simp only [Act.put, List.getElem_toArray, List.getElem_cons_succ, List.getElem_cons_zero, List.setIfInBounds_toArray, List.set_cons_zero, List.set_cons_succ]
                      refine wpAnyH_take (i := 28) (v := undef) rfl (by kernel_rfl) (by kernel_rfl) (by kernel_rfl) (fun _ _ _ h => h) (Or.inr ⟨by rfl, rfl⟩) hS36 ?_
                      simp only [Act.put, List.getElem_toArray, List.getElem_cons_succ, List.getElem_cons_zero, List.setIfInBounds_toArray, List.set_cons_zero, List.set_cons_succ]
                      refine wpAnyH_take (i := 29) (v := undef) rfl (by kernel_rfl) (by kernel_rfl) (by kernel_rfl) (fun _ _ _ h => h) (Or.inr ⟨by rfl, rfl⟩) hS36 ?_
                      simp only [Act.put, List.getElem_toArray, List.getElem_cons_succ, List.getElem_cons_zero, List.setIfInBounds_toArray, List.set_cons_zero, List.set_cons_succ]
                      refine wpAnyH_take (i := 30) (v := .bool false) rfl (by kernel_rfl) (by kernel_rfl) (by kernel_rfl) (fun _ _ _ h => h) (Or.inl ⟨by rfl, fun w' hSw => ?_⟩) hS36 ?_
                      · (try dsimp only at hSw)
                        go_simp
                      simp only [Act.put, List.getElem_toArray, List.getElem_cons_succ, List.getElem_cons_zero, List.setIfInBounds_toArray, List.set_cons_zero, List.set_cons_succ]
                      refine wpAnyH_take (i := 31) (v := .bool false) rfl (by kernel_rfl) (by kernel_rfl) (by kernel_rfl) (fun _ _ _ h => h) (Or.inl ⟨by rfl, fun w' hSw => ?_⟩) hS36 ?_
                      · (try dsimp only at hSw)
                        go_simp
                      simp only [Act.put, List.getElem_toArray, List.getElem_cons_succ, List.getElem_cons_zero, List.setIfInBounds_toArray, List.set_cons_zero, List.set_cons_succ]
                      refine wpAnyH_take (i := 32) (v := undef) rfl (by kernel_rfl) (by kernel_rfl) (by kernel_rfl) (fun _ _ _ h => h) (Or.inr ⟨by rfl, rfl⟩) hS36 ?_
                      simp only [Act.put, List.getElem_toArray, List.getElem_cons_succ, List.getElem_cons_zero, List.setIfInBounds_toArray, List.set_cons_zero, List.set_cons_succ]
                      refine wpAnyH_take (i := 33) (v := undef) rfl (by kernel_rfl) (by kernel_rfl) (by kernel_rfl) (fun _ _ _ h => h) (Or.inr ⟨by rfl, rfl⟩) hS36 ?_
                      simp only [Act.put, List.getElem_toArray, List.getElem_cons_succ, List.getElem_cons_zero, List.setIfInBounds_toArray, List.set_cons_zero, List.set_cons_succ]
                      refine wpAnyH_take (i := 34) (v := undef) rfl (by kernel_rfl) (by kernel_rfl) (by kernel_rfl) (fun _ _ _ h => h) (Or.inr ⟨by rfl, rfl⟩) hS36 ?_
                      simp only [Act.put, List.getElem_toArray, List.getElem_cons_succ, List.getElem_cons_zero, List.setIfInBounds_toArray, List.set_cons_zero, List.set_cons_succ]
                      refine wpAnyH_take (i := 35) (v := undef) rfl (by kernel_rfl) (by kernel_rfl) (by kernel_rfl) (fun _ _ _ h => h) (Or.inr ⟨by rfl, rfl⟩) hS36 ?_
                      simp only [Act.put, List.getElem_toArray, List.getElem_cons_succ, List.getElem_cons_zero, List.setIfInBounds_toArray, List.set_cons_zero, List.set_cons_succ]
                      refine wpAnyH_take (i := 36) (v := undef) rfl (by kernel_rfl) (by kernel_rfl) (by kernel_rfl) (fun _ _ _ h => h) (Or.inr ⟨by rfl, rfl⟩) hS36 ?_
                      simp only [Act.put, List.getElem_toArray, List.getElem_cons_succ, List.getElem_cons_zero, List.setIfInBounds_toArray, List.set_cons_zero, List.set_cons_succ]
                      refine wpAnyH_take (i := 37) (v := undef) rfl (by kernel_rfl) (by kernel_rfl) (by kernel_rfl) (fun _ _ _ h => h) (Or.inr ⟨by rfl, rfl⟩) hS36 ?_
                      simp only [Act.put, List.getElem_toArray, List.getElem_cons_succ, List.getElem_cons_zero, List.setIfInBounds_toArray, List.set_cons_zero, List.set_cons_succ]
                      refine wpAnyH_take (i := 38) (v := undef) rfl (by kernel_rfl) (by kernel_rfl) (by kernel_rfl) (fun _ _ _ h => h) (Or.inr ⟨by rfl, rfl⟩) hS36 ?_
                      simp only [Act.put, List.getElem_toArray, List.getElem_cons_succ, List.getElem_cons_zero, List.setIfInBounds_toArray, List.set_cons_zero, List.set_cons_succ]
                      refine wpAnyH_take (i := 39) (v := undef) rfl (by kernel_rfl) (by kernel_rfl) (by kernel_rfl) (fun _ _ _ h => h) (Or.inr ⟨by rfl, rfl⟩) hS36 ?_
                      simp only [Act.put, List.getElem_toArray, List.getElem_cons_succ, List.getElem_cons_zero, List.setIfInBounds_toArray, List.set_cons_zero, List.set_cons_succ]
                      refine wpAnyH_take (i := 40) (v := .bool false) rfl (by kernel_rfl) (by kernel_rfl) (by kernel_rfl) (fun _ _ _ h => h) (Or.inl ⟨by rfl, fun w' hSw => ?_⟩) hS36 ?_
                      · (try dsimp only at hSw)
                        go_simp
                      simp only [Act.put, List.getElem_toArray, List.getElem_cons_succ, List.getElem_cons_zero, List.setIfInBounds_toArray, List.set_cons_zero, List.set_cons_succ]
                      refine wpAnyH_take (i := 41) (v := .bool false) rfl (by kernel_rfl) (by kernel_rfl) (by kernel_rfl) (fun _ _ _ h => h) (Or.inl ⟨by rfl, fun w' hSw => ?_⟩) hS36 ?_
                      · (try dsimp only at hSw)
                        go_simp
                      simp only [Act.put, List.getElem_toArray, List.getElem_cons_succ, List.getElem_cons_zero, List.setIfInBounds_toArray, List.set_cons_zero, List.set_cons_succ]
                      refine wpAnyH_take (i := 42) (v := .bool false) rfl (by kernel_rfl) (by kernel_rfl) (by kernel_rfl) (fun _ _ _ h => h) (Or.inl ⟨by rfl, fun w' hSw => ?_⟩) hS36 ?_
                      · (try dsimp only at hSw)
                        go_simp
                      simp only [Act.put, List.getElem_toArray, List.getElem_cons_succ, List.getElem_cons_zero, List.setIfInBounds_toArray, List.set_cons_zero, List.set_cons_succ]
                      refine wpAnyH_done (by kernel_rfl) ?_ _
                      have HI6 : Hid (ActI w q p b f cap N rp rb B' w36) := ⟨(HH5.out.below HB36.out).board, (HH5.out.below HB36.out).ref, (HH5.out.below HB36.out).bel⟩
                      go_wp2
                      go_roundw
                      case rel => exact ⟨j + 1, B', by go_num, by omega, HI6⟩
                      case measure => simp [intOf]; omega
                    · have hb0 : (0 ≤ kk) = True := eq_true (by omega)
                      have hb1 : (kk < (N : Int)) = False := eq_false (by omega)
                      clear hin hneg
                      go_wp2_with (fail)
                      refine wp_region_held_drew (S := fun w' : World => World.cell? w' ⟨X, 1, none⟩ = some (.int .i64 kk) ∧ World.cell? w' ⟨rp, 0, none⟩ = some (.slice (some ⟨rb, 0, none⟩) N N)) (by kernel_rfl) (HS.out _ (Below.refl _ _).drew) (fun hHeld => ?_)
                      refine wpAnyH_take (i := 0) (v := .bool true) rfl (by kernel_rfl) (by kernel_rfl) (by kernel_rfl) (fun _ _ _ h => h) (Or.inl ⟨by rfl, fun w' hSw => ?_⟩) hHeld ?_
                      · (try dsimp only at hSw)
                        go_simp
                      simp only [Act.put, List.getElem_toArray, List.getElem_cons_zero, List.setIfInBounds_toArray, List.set_cons_zero, List.set_cons_succ]
                      refine wpAnyH_take (i := 1) (v := .bool false) rfl (by kernel_rfl) (by kernel_rfl) (by kernel_rfl) (fun _ _ _ h => h) (Or.inl ⟨by rfl, fun w' hSw => ?_⟩) hHeld ?_
                      · (try dsimp only at hSw)
                        go_simp
                      simp only [Act.put, List.getElem_toArray, List.getElem_cons_succ, List.getElem_cons_zero, List.setIfInBounds_toArray, List.set_cons_zero, List.set_cons_succ]
                      refine wpAnyH_take (i := 2) (v := .bool false) rfl (by kernel_rfl) (by kernel_rfl) (by kernel_rfl) (fun _ _ _ h => h) (Or.inl ⟨by rfl, fun w' hSw => ?_⟩) hHeld ?_
                      · (try dsimp only at hSw)
                        go_simp
                      simp only [Act.put, List.getElem_toArray, List.getElem_cons_succ, List.getElem_cons_zero, List.setIfInBounds_toArray, List.set_cons_zero, List.set_cons_succ]
                      refine wpAnyH_take (i := 3) (v := .pointer (some ⟨q, 0, none⟩)) rfl (by kernel_rfl) (by kernel_rfl) (by kernel_rfl) (fun _ _ _ h => h) (Or.inl ⟨by rfl, fun w' hSw => ?_⟩) hHeld ?_
                      · (try dsimp only at hSw)
                        go_simp
                      simp only [Act.put, List.getElem_toArray, List.getElem_cons_succ, List.getElem_cons_zero, List.setIfInBounds_toArray, List.set_cons_zero, List.set_cons_succ]
                      refine wpAnyH_take (i := 5) (v := .pointer (some ⟨rp, 0, none⟩)) rfl (by kernel_rfl) (by kernel_rfl) (by kernel_rfl) (fun _ _ _ h => h) (Or.inl ⟨by rfl, fun w' hSw => ?_⟩) hHeld ?_
                      · (try dsimp only at hSw)
                        go_simp
                      simp only [Act.put, List.getElem_toArray, List.getElem_cons_succ, List.getElem_cons_zero, List.setIfInBounds_toArray, List.set_cons_zero, List.set_cons_succ]
                      refine wpAnyH_ready (rs := [4]) (by kernel_rfl) (by simp) ?_
                      refine AllReadyH.cons rfl (fun K hK => ?_) AllReadyH.nil
                      go_simp
                      go_wp2_with (go_at_call 18; refine (HA1.out _ (Below.refl _ _).drew).mono ?_; rintro e31 w31 ⟨rfl, hb⟩; have HB31 : Hid (Below wc.heap.size wc w31) := hb; clear hb)
                      have hS31 : (fun w' : World => World.cell? w' ⟨X, 1, none⟩ = some (.int .i64 kk) ∧ World.cell? w' ⟨rp, 0, none⟩ = some (.slice (some ⟨rb, 0, none⟩) N N)) w31 := HS.out _ HB31.out
                      refine hK.out _ _ hS31 (fun _ => ?_)
                      clear hK K
                      refine wpAnyH_ready (rs := [6]) (by kernel_rfl) (by simp) ?_
                      refine AllReadyH.cons rfl (fun K hK => ?_) AllReadyH.nil
                      go_simp
                      go_wp2_with (go_at_call 19; refine (HA2.out _ HB31.out).mono ?_; rintro e32 w32 ⟨rfl, hb⟩; have HB32 : Hid (Below wc.heap.size wc w32) := hb; clear hb)
                      have hS32 : (fun w' : World => World.cell? w' ⟨X, 1, none⟩ = some (.int .i64 kk) ∧ World.cell? w' ⟨rp, 0, none⟩ = some (.slice (some ⟨rb, 0, none⟩) N N)) w32 := HS.out _ HB32.out
                      refine hK.out _ _ hS32 (fun _ => ?_)
                      clear hK K
                      refine wpAnyH_take (i := 7) (v := .bool false) rfl (by kernel_rfl) (by kernel_rfl) (by kernel_rfl) (fun _ _ _ h => h) (Or.inl ⟨by rfl, fun w' hSw => ?_⟩) hS32 ?_
                      · (try dsimp only at hSw)
                        go_simp
                      simp only [Act.put, List.getElem_toArray, List.getElem_cons_succ, List.getElem_cons_zero, List.setIfInBounds_toArray, List.set_cons_zero, List.set_cons_succ]
                      refine wpAnyH_take (i := 8) (v := .bool false) rfl (by kernel_rfl) (by kernel_rfl) (by kernel_rfl) (fun _ _ _ h => h) (Or.inl ⟨by rfl, fun w' hSw => ?_⟩) hS32 ?_
                      · (try dsimp only at hSw)
                        go_simp
                      simp only [Act.put, List.getElem_toArray, List.getElem_cons_succ, List.getElem_cons_zero, List.setIfInBounds_toArray, List.set_cons_zero, List.set_cons_succ]
                      refine wpAnyH_take (i := 9) (v := .bool false) rfl (by kernel_rfl) (by kernel_rfl) (by kernel_rfl) (fun _ _ _ h => h) (Or.inl ⟨by rfl, fun w' hSw => ?_⟩) hS32 ?_
                      · (try dsimp only at hSw)
                        go_simp
                      simp only [Act.put, List.getElem_toArray, List.getElem_cons_succ, List.getElem_cons_zero, List.setIfInBounds_toArray, List.set_cons_zero, List.set_cons_succ]
                      refine wpAnyH_take (i := 10) (v := .pointer (some ⟨q, 0, none⟩)) rfl (by kernel_rfl) (by kernel_rfl) (by kernel_rfl) (fun _ _ _ h => h) (Or.inl ⟨by rfl, fun w' hSw => ?_⟩) hS32 ?_
                      · (try dsimp only at hSw)
                        go_simp
                      simp only [Act.put, List.getElem_toArray, List.getElem_cons_succ, List.getElem_cons_zero, List.setIfInBounds_toArray, List.set_cons_zero, List.set_cons_succ]
                      refine wpAnyH_take (i := 12) (v := .pointer (some ⟨rp, 0, none⟩)) rfl (by kernel_rfl) (by kernel_rfl) (by kernel_rfl) (fun _ _ _ h => h) (Or.inl ⟨by rfl, fun w' hSw => ?_⟩) hS32 ?_
                      · (try dsimp only at hSw)
                        go_simp
                      simp only [Act.put, List.getElem_toArray, List.getElem_cons_succ, List.getElem_cons_zero, List.setIfInBounds_toArray, List.set_cons_zero, List.set_cons_succ]
                      refine wpAnyH_ready (rs := [11]) (by kernel_rfl) (by simp) ?_
                      refine AllReadyH.cons rfl (fun K hK => ?_) AllReadyH.nil
                      go_simp
                      go_wp2_with (go_at_call 20; refine (HA3.out _ HB32.out).mono ?_; rintro e33 w33 ⟨u33, rfl, hu, hb, -⟩; have HB33 : Hid (Below wc.heap.size wc w33) := hb; have HU33 : Hid (Nums w33 u33 (frL B' N (wn N))) := hu; clear hb hu)
                      have hS33 : (fun w' : World => World.cell? w' ⟨X, 1, none⟩ = some (.int .i64 kk) ∧ World.cell? w' ⟨rp, 0, none⟩ = some (.slice (some ⟨rb, 0, none⟩) N N)) w33 := HS.out _ HB33.out
                      refine hK.out _ _ hS33 (fun _ => ?_)
                      clear hK K
                      refine wpAnyH_ready (rs := [13]) (by kernel_rfl) (by simp) ?_
                      refine AllReadyH.cons rfl (fun K hK => ?_) AllReadyH.nil
                      go_simp
                      go_wp2_with (go_at_call 21; refine (HA4.out _ HB33.out).mono ?_; rintro e34 w34 ⟨u34, rfl, hu, hb, hb2⟩; have HB34 : Hid (Below wc.heap.size wc w34) := hb; have HU34 : Hid (Nums w34 u34 (frL B' N (wn N))) := hu; have HU33b : Hid (Nums w34 u33 (frL B' N (wn N))) := HU33.out.kept hb2; clear hb hu hb2)
                      have hS34 : (fun w' : World => World.cell? w' ⟨X, 1, none⟩ = some (.int .i64 kk) ∧ World.cell? w' ⟨rp, 0, none⟩ = some (.slice (some ⟨rb, 0, none⟩) N N)) w34 := HS.out _ HB34.out
                      refine hK.out _ _ hS34 (fun _ => ?_)
                      clear hK K
                      refine wpAnyH_ready (rs := [14]) (by kernel_rfl) (by simp) ?_
                      refine AllReadyH.cons rfl (fun K hK => ?_) AllReadyH.nil
                      go_simp
                      go_wp2_with (go_at_call 17; refine (HA6.out _ _ _ HU33b.out HU34.out HB34.out).mono ?_; rintro e35 w35 ⟨rfl, hb⟩; have HB35 : Hid (Below wc.heap.size wc w35) := hb; clear hb)
                      have hS35 : (fun w' : World => World.cell? w' ⟨X, 1, none⟩ = some (.int .i64 kk) ∧ World.cell? w' ⟨rp, 0, none⟩ = some (.slice (some ⟨rb, 0, none⟩) N N)) w35 := HS.out _ HB35.out
                      refine hK.out _ _ hS35 (fun _ => ?_)
                      clear hK K
                      refine wpAnyH_take (i := 15) (v := .bool false) rfl (by kernel_rfl) (by kernel_rfl) (by kernel_rfl) (fun _ _ _ h => h) (Or.inl ⟨by rfl, fun w' hSw => ?_⟩) hS35 ?_
                      · (try dsimp only at hSw)
                        go_simp
                      simp only [Act.put, List.getElem_toArray, List.getElem_cons_succ, List.getElem_cons_zero, List.setIfInBounds_toArray, List.set_cons_zero, List.set_cons_succ]
                      refine wpAnyH_take (i := 16) (v := .bool false) rfl (by kernel_rfl) (by kernel_rfl) (by kernel_rfl) (fun _ _ _ h => h) (Or.inl ⟨by rfl, fun w' hSw => ?_⟩) hS35 ?_
                      · (try dsimp only at hSw)
                        go_simp
                      simp only [Act.put, List.getElem_toArray, List.getElem_cons_succ, List.getElem_cons_zero, List.setIfInBounds_toArray, List.set_cons_zero, List.set_cons_succ]
                      refine wpAnyH_take (i := 17) (v := .bool false) rfl (by kernel_rfl) (by kernel_rfl) (by kernel_rfl) (fun _ _ _ h => h) (Or.inl ⟨by rfl, fun w' hSw => ?_⟩) hS35 ?_
                      · (try dsimp only at hSw)
                        go_simp
                      simp only [Act.put, List.getElem_toArray, List.getElem_cons_succ, List.getElem_cons_zero, List.setIfInBounds_toArray, List.set_cons_zero, List.set_cons_succ]
                      refine wpAnyH_take (i := 18) (v := .pointer (some ⟨q, 0, none⟩)) rfl (by kernel_rfl) (by kernel_rfl) (by kernel_rfl) (fun _ _ _ h => h) (Or.inl ⟨by rfl, fun w' hSw => ?_⟩) hS35 ?_
                      · (try dsimp only at hSw)
                        go_simp
                      simp only [Act.put, List.getElem_toArray, List.getElem_cons_succ, List.getElem_cons_zero, List.setIfInBounds_toArray, List.set_cons_zero, List.set_cons_succ]
                      refine wpAnyH_take (i := 19) (v := .pointer (some ⟨X, 1, none⟩)) rfl (by kernel_rfl) (by kernel_rfl) (by kernel_rfl) (fun _ _ _ h => h) (Or.inl ⟨by rfl, fun w' hSw => ?_⟩) hS35 ?_
                      · (try dsimp only at hSw)
                        go_simp
                      simp only [Act.put, List.getElem_toArray, List.getElem_cons_succ, List.getElem_cons_zero, List.setIfInBounds_toArray, List.set_cons_zero, List.set_cons_succ]
                      refine wpAnyH_take (i := 20) (v := .int .i64 kk) rfl (by kernel_rfl) (by kernel_rfl) (by kernel_rfl) (fun _ _ _ h => h) (Or.inl ⟨by rfl, fun w' hSw => ?_⟩) hS35 ?_
                      · (try dsimp only at hSw)
                        go_simp
                      simp only [Act.put, List.getElem_toArray, List.getElem_cons_succ, List.getElem_cons_zero, List.setIfInBounds_toArray, List.set_cons_zero, List.set_cons_succ]
                      refine wpAnyH_take (i := 22) (v := .pointer (some ⟨X, 1, none⟩)) rfl (by kernel_rfl) (by kernel_rfl) (by kernel_rfl) (fun _ _ _ h => h) (Or.inl ⟨by rfl, fun w' hSw => ?_⟩) hS35 ?_
                      · (try dsimp only at hSw)
                        go_simp
                      simp only [Act.put, List.getElem_toArray, List.getElem_cons_succ, List.getElem_cons_zero, List.setIfInBounds_toArray, List.set_cons_zero, List.set_cons_succ]
                      refine wpAnyH_take (i := 23) (v := .int .i64 kk) rfl (by kernel_rfl) (by kernel_rfl) (by kernel_rfl) (fun _ _ _ h => h) (Or.inl ⟨by rfl, fun w' hSw => ?_⟩) hS35 ?_
                      · (try dsimp only at hSw)
                        go_simp
                      simp only [Act.put, List.getElem_toArray, List.getElem_cons_succ, List.getElem_cons_zero, List.setIfInBounds_toArray, List.set_cons_zero, List.set_cons_succ]
                      refine wpAnyH_take (i := 24) (v := .bool true) rfl (by kernel_rfl) (by kernel_rfl) (by kernel_rfl) (fun _ _ _ h => h) (Or.inl ⟨by rfl, fun w' hSw => ?_⟩) hS35 ?_
                      · (try dsimp only at hSw)
                        go_simp
                      simp only [Act.put, List.getElem_toArray, List.getElem_cons_succ, List.getElem_cons_zero, List.setIfInBounds_toArray, List.set_cons_zero, List.set_cons_succ]
                      refine wpAnyH_ready (rs := [21]) (by kernel_rfl) (by simp) ?_
                      refine AllReadyH.cons rfl (fun K hK => ?_) AllReadyH.nil
                      go_simp
                      go_wp2_with (go_at_call 22; refine (HA5.out _ HB35.out).mono ?_; rintro e36 w36 ⟨rfl, hb⟩; have HB36 : Hid (Below wc.heap.size wc w36) := hb; clear hb)
                      have hS36 : (fun w' : World => World.cell? w' ⟨X, 1, none⟩ = some (.int .i64 kk) ∧ World.cell? w' ⟨rp, 0, none⟩ = some (.slice (some ⟨rb, 0, none⟩) N N)) w36 := HS.out _ HB36.out
                      refine hK.out _ _ hS36 (fun _ => ?_)
                      clear hK K
                      refine wpAnyH_take (i := 25) (v := .bool true) rfl (by kernel_rfl) (by kernel_rfl) (by kernel_rfl) (fun _ _ _ h => h) (Or.inl ⟨by rfl, fun w' hSw => ?_⟩) hS36 ?_
                      · (try dsimp only at hSw)
                        go_simp
                      simp only [Act.put, List.getElem_toArray, List.getElem_cons_succ, List.getElem_cons_zero, List.setIfInBounds_toArray, List.set_cons_zero, List.set_cons_succ]
                      refine wpAnyH_take (i := 26) (v := .pointer (some ⟨X, 1, none⟩)) rfl (by kernel_rfl) (by kernel_rfl) (by kernel_rfl) (fun _ _ _ h => h) (Or.inl ⟨by rfl, fun w' hSw => ?_⟩) hS36 ?_
                      · (try dsimp only at hSw)
                        go_simp
                      simp only [Act.put, List.getElem_toArray, List.getElem_cons_succ, List.getElem_cons_zero, List.setIfInBounds_toArray, List.set_cons_zero, List.set_cons_succ]
                      refine wpAnyH_take (i := 27) (v := .int .i64 kk) rfl (by kernel_rfl) (by kernel_rfl) (by kernel_rfl) (fun _ _ _ h => h) (Or.inl ⟨by rfl, fun w' hSw => ?_⟩) hS36 ?_
                      · (try dsimp only at hSw)
                        go_simp
                      simp only [Act.put, List.getElem_toArray, List.getElem_cons_succ, List.getElem_cons_zero, List.setIfInBounds_toArray, List.set_cons_zero, List.set_cons_succ]
                      refine wpAnyH_take (i := 28) (v := .int .i64 (N : Nat)) rfl (by kernel_rfl) (by kernel_rfl) (by kernel_rfl) (fun _ _ _ h => h) (Or.inl ⟨by rfl, fun w' hSw => ?_⟩) hS36 ?_
                      · (try dsimp only at hSw)
                        go_simp
                      simp only [Act.put, List.getElem_toArray, List.getElem_cons_succ, List.getElem_cons_zero, List.setIfInBounds_toArray, List.set_cons_zero, List.set_cons_succ]
                      refine wpAnyH_take (i := 29) (v := .bool false) rfl (by kernel_rfl) (by kernel_rfl) (by kernel_rfl) (fun _ _ _ h => h) (Or.inl ⟨by rfl, fun w' hSw => ?_⟩) hS36 ?_
                      · (try dsimp only at hSw)
                        go_simp
                      simp only [Act.put, List.getElem_toArray, List.getElem_cons_succ, List.getElem_cons_zero, List.setIfInBounds_toArray, List.set_cons_zero, List.set_cons_succ]
                      refine wpAnyH_take (i := 30) (v := .bool false) rfl (by kernel_rfl) (by kernel_rfl) (by kernel_rfl) (fun _ _ _ h => h) (Or.inl ⟨by rfl, fun w' hSw => ?_⟩) hS36 ?_
                      · (try dsimp only at hSw)
                        go_simp
                      simp only [Act.put, List.getElem_toArray, List.getElem_cons_succ, List.getElem_cons_zero, List.setIfInBounds_toArray, List.set_cons_zero, List.set_cons_succ]
                      refine wpAnyH_take (i := 31) (v := .bool false) rfl (by kernel_rfl) (by kernel_rfl) (by kernel_rfl) (fun _ _ _ h => h) (Or.inl ⟨by rfl, fun w' hSw => ?_⟩) hS36 ?_
                      · (try dsimp only at hSw)
                        go_simp
                      simp only [Act.put, List.getElem_toArray, List.getElem_cons_succ, List.getElem_cons_zero, List.setIfInBounds_toArray, List.set_cons_zero, List.set_cons_succ]
                      refine wpAnyH_take (i := 32) (v := undef) rfl (by kernel_rfl) (by kernel_rfl) (by kernel_rfl) (fun _ _ _ h => h) (Or.inr ⟨by rfl, rfl⟩) hS36 ?_
                      simp only [Act.put, List.getElem_toArray, List.getElem_cons_succ, List.getElem_cons_zero, List.setIfInBounds_toArray, List.set_cons_zero, List.set_cons_succ]
                      refine wpAnyH_take (i := 33) (v := undef) rfl (by kernel_rfl) (by kernel_rfl) (by kernel_rfl) (fun _ _ _ h => h) (Or.inr ⟨by rfl, rfl⟩) hS36 ?_
                      simp only [Act.put, List.getElem_toArray, List.getElem_cons_succ, List.getElem_cons_zero, List.setIfInBounds_toArray, List.set_cons_zero, List.set_cons_succ]
                      refine wpAnyH_take (i := 34) (v := undef) rfl (by kernel_rfl) (by kernel_rfl) (by kernel_rfl) (fun _ _ _ h => h) (Or.inr ⟨by rfl, rfl⟩) hS36 ?_
                      simp only [Act.put, List.getElem_toArray, List.getElem_cons_succ, List.getElem_cons_zero, List.setIfInBounds_toArray, List.set_cons_zero, List.set_cons_succ]
                      refine wpAnyH_take (i := 35) (v := undef) rfl (by kernel_rfl) (by kernel_rfl) (by kernel_rfl) (fun _ _ _ h => h) (Or.inr ⟨by rfl, rfl⟩) hS36 ?_
                      simp only [Act.put, List.getElem_toArray, List.getElem_cons_succ, List.getElem_cons_zero, List.setIfInBounds_toArray, List.set_cons_zero, List.set_cons_succ]
                      refine wpAnyH_take (i := 36) (v := undef) rfl (by kernel_rfl) (by kernel_rfl) (by kernel_rfl) (fun _ _ _ h => h) (Or.inr ⟨by rfl, rfl⟩) hS36 ?_
                      simp only [Act.put, List.getElem_toArray, List.getElem_cons_succ, List.getElem_cons_zero, List.setIfInBounds_toArray, List.set_cons_zero, List.set_cons_succ]
                      refine wpAnyH_take (i := 37) (v := undef) rfl (by kernel_rfl) (by kernel_rfl) (by kernel_rfl) (fun _ _ _ h => h) (Or.inr ⟨by rfl, rfl⟩) hS36 ?_
                      simp only [Act.put, List.getElem_toArray, List.getElem_cons_succ, List.getElem_cons_zero, List.setIfInBounds_toArray, List.set_cons_zero, List.set_cons_succ]
                      refine wpAnyH_take (i := 38) (v := undef) rfl (by kernel_rfl) (by kernel_rfl) (by kernel_rfl) (fun _ _ _ h => h) (Or.inr ⟨by rfl, rfl⟩) hS36 ?_
                      simp only [Act.put, List.getElem_toArray, List.getElem_cons_succ, List.getElem_cons_zero, List.setIfInBounds_toArray, List.set_cons_zero, List.set_cons_succ]
                      refine wpAnyH_take (i := 39) (v := undef) rfl (by kernel_rfl) (by kernel_rfl) (by kernel_rfl) (fun _ _ _ h => h) (Or.inr ⟨by rfl, rfl⟩) hS36 ?_
                      simp only [Act.put, List.getElem_toArray, List.getElem_cons_succ, List.getElem_cons_zero, List.setIfInBounds_toArray, List.set_cons_zero, List.set_cons_succ]
                      refine wpAnyH_take (i := 40) (v := .bool false) rfl (by kernel_rfl) (by kernel_rfl) (by kernel_rfl) (fun _ _ _ h => h) (Or.inl ⟨by rfl, fun w' hSw => ?_⟩) hS36 ?_
                      · (try dsimp only at hSw)
                        go_simp
                      simp only [Act.put, List.getElem_toArray, List.getElem_cons_succ, List.getElem_cons_zero, List.setIfInBounds_toArray, List.set_cons_zero, List.set_cons_succ]
                      refine wpAnyH_take (i := 41) (v := .bool false) rfl (by kernel_rfl) (by kernel_rfl) (by kernel_rfl) (fun _ _ _ h => h) (Or.inl ⟨by rfl, fun w' hSw => ?_⟩) hS36 ?_
                      · (try dsimp only at hSw)
                        go_simp
                      simp only [Act.put, List.getElem_toArray, List.getElem_cons_succ, List.getElem_cons_zero, List.setIfInBounds_toArray, List.set_cons_zero, List.set_cons_succ]
                      refine wpAnyH_take (i := 42) (v := .bool false) rfl (by kernel_rfl) (by kernel_rfl) (by kernel_rfl) (fun _ _ _ h => h) (Or.inl ⟨by rfl, fun w' hSw => ?_⟩) hS36 ?_
                      · (try dsimp only at hSw)
                        go_simp
                      simp only [Act.put, List.getElem_toArray, List.getElem_cons_succ, List.getElem_cons_zero, List.setIfInBounds_toArray, List.set_cons_zero, List.set_cons_succ]
                      refine wpAnyH_done (by kernel_rfl) ?_ _
                      have HI6 : Hid (ActI w q p b f cap N rp rb B' w36) := ⟨(HH5.out.below HB36.out).board, (HH5.out.below HB36.out).ref, (HH5.out.below HB36.out).bel⟩
                      go_wp2
                      go_roundw
                      case rel => exact ⟨j + 1, B', by go_num, by omega, HI6⟩
                      case measure => simp [intOf]; omega
                by_cases k0 : kd = 0
                · subst k0
                  have HTk : Hid (Calls Tryd.prog 11 #[.pointer (some ⟨q, 0, none⟩)] W1 fun x w' => ∃ (a : Int) (e : Nat) (B' : Nat → Bool), e ≤ 12 ∧ x = .returned (.tuple #[.int .i64 a, .int .i64 (e : Nat)]) ∧ TakeRel B N a e B' ∧ HalfW w q p b f cap N rp rb X 0 kk (.slice la ls.length lc) B B' w') :=
                    (act_take W1 q p b f cap N B HH1.out.board (HST.out _ HH1.out.bel)).mono fun x w' hx => by
                      obtain ⟨a, e, B', h1, h2, h3, h4, h5⟩ := hx
                      exact ⟨a, e, B', h1, h2, h3, HH1.out.two h4 h5 HP.out.1 HP.out.2⟩
                  go_wp2_with fail
                  refine HTk.out.mono ?_
                  rintro e2 W2 ⟨a, e, B', he12, rfl, hrel, hh⟩
                  have HH2 : Hid (HalfW w q p b f cap N rp rb X 0 kk (.slice la ls.length lc) B B' W2) := hh
                  have HRT : Hid (Calls Tryd.prog 12 #[.pointer (some ⟨rp, 0, none⟩)] W2 fun x w' => x = .returned (.tuple #[.int .i64 a, .int .i64 (e : Nat)]) ∧ HalfW w q p b f cap N rp rb X 0 kk (.slice la ls.length lc) B' B' w') :=
                    (act_refTake W2 rp rb N B B' a e hh.ref (by omega) HH1.out.board.row.tail hrel).mono fun x w' hx => ⟨hx.1, HH2.out.one hx.2.1 hx.2.2 HRB.out⟩
                  clear hrel hh HTk x0 x1 x2
                  go_wp2_with fail
                  refine HRT.out.mono ?_
                  rintro e3 W5 ⟨rfl, hh⟩
                  have HH5 : Hid (HalfW w q p b f cap N rp rb X 0 kk (.slice la ls.length lc) B' B' W5) := hh
                  clear hh HRT HH2 HH1 HW1
                  go_wp2
                  go_meet
                  exact ⟨rfl, B', HH5⟩
                · by_cases k1 : kd = 1
                  · subst k1
                    have HTk : Hid (Calls Tryd.prog 13 #[.pointer (some ⟨q, 0, none⟩), .int .i64 kk] W1 fun x w' => ∃ (a : Int) (e : Nat) (B' : Nat → Bool), e ≤ 12 ∧ x = .returned (.tuple #[.int .i64 a, .int .i64 (e : Nat)]) ∧ RunRel B N kk a e B' ∧ HalfW w q p b f cap N rp rb X 1 kk (.slice la ls.length lc) B B' w') :=
                      (act_run W1 q p b f cap N B kk HH1.out.board (HST.out _ HH1.out.bel)).mono fun x w' hx => by
                        obtain ⟨a, e, B', h1, h2, h3, h4, h5⟩ := hx
                        exact ⟨a, e, B', h1, h2, h3, HH1.out.two h4 h5 HP.out.1 HP.out.2⟩
                    go_wp2_with fail
                    refine HTk.out.mono ?_
                    rintro e2 W2 ⟨a, e, B', he12, rfl, hrel, hh⟩
                    have HH2 : Hid (HalfW w q p b f cap N rp rb X 1 kk (.slice la ls.length lc) B B' W2) := hh
                    have y1 : W2.cell? ⟨X, 1, none⟩ = some (.int .i64 kk) := by rw [cell_of_row W2 X _ _ _ _ hh.box]; rfl
                    have HRT : Hid (Calls Tryd.prog 14 #[.pointer (some ⟨rp, 0, none⟩), .int .i64 kk] W2 fun x w' => x = .returned (.tuple #[.int .i64 a, .int .i64 (e : Nat)]) ∧ HalfW w q p b f cap N rp rb X 1 kk (.slice la ls.length lc) B' B' w') :=
                      (act_refRun W2 rp rb N B B' kk a e hh.ref (by omega) hrel).mono fun x w' hx => ⟨hx.1, HH2.out.one hx.2.1 hx.2.2 HRB.out⟩
                    clear hrel hh HTk x0 x1 x2 k0
                    go_wp2_with fail
                    refine HRT.out.mono ?_
                    rintro e3 W5 ⟨rfl, hh⟩
                    have HH5 : Hid (HalfW w q p b f cap N rp rb X 1 kk (.slice la ls.length lc) B' B' W5) := hh
                    clear hh HRT HH2 HH1 HW1 y1
                    go_wp2
                    go_meet
                    exact ⟨rfl, B', HH5⟩
                  · by_cases k2 : kd = 2
                    · subst k2
                      have hown0 := World.ownsRow_made (base := W1.heap.size) (e := 3) (size := 1) W1 #[] 0 (Nat.le_refl _) (by decide) rfl
                      have HOW0 : Hid ((W1.alloc (.cells #[] 3)).ownsRow W1.heap.size 3 1 (.slice (some ⟨W1.heap.size, 0, none⟩) 0 0) 0 (nums [])) := hown0
                      have HNL1 : Hid (∀ W, Below w.heap.size w W → Nums W (.slice la ls.length lc) ls) := fun W h => HNL.out.kept h
                      have HAL : Hid (∀ o, Below W1.heap.size W1 (W1.alloc o)) := fun o => (Below.refl _ _).alloc (Nat.le_refl _) _
                      have x2b : ∀ o, (W1.alloc o).cell? ⟨X, 2, none⟩ = some (.slice la ls.length lc) := fun o => ((HAL.out o).cell (p := ⟨X, 2, none⟩) (lt_of_heap HH1.out.box)).trans x2
                      clear hown0
                      go_wp2_with (first
                        | (at_builtin; (refine wpList_append_nums _ rfl _ _ 22 rfl W1.heap.size 3 i0 Tryd.underlying22 hi hz0 hz1 hz2 _ 0 [] rfl HOW0.out _ ls rfl (HNL1.out _ (HH1.out.bel.trans ((HAL.out _).mono HH1.out.bel.size))) ?d1 ?d2 ?_; (case d1 => omega); (case d2 => simp); intro u2 W2 hown2 hg2 hat2; have HO2 : Hid (W2.ownsRow W1.heap.size 3 1 u2 ls.length (nums ls)) := (by unfold Hid; simpa using hown2); have HB2 : Hid (Below W1.heap.size W1 W2) := grewAny (HAL.out _) HOW0.out hg2 (by simp); clear hown2 hg2 hat2)))
                      have HH2 : Hid (HalfW w q p b f cap N rp rb X 2 kk (.slice la ls.length lc) B B W2) := HH1.out.below HB2.out
                      obtain ⟨uu, hshu⟩ : ∃ x : Unit, True := ⟨(), trivial⟩
                      have HU2 : Hid (Nums W2 u2 ls) := Nums.ofOwn (by simpa using HO2.out) HNL.out.1
                      have HUB : Hid (u2.ownBlock ≠ some b ∧ u2.ownBlock ≠ some f ∧ u2.ownBlock ≠ some rb) := by
                        have e1 := HH1.out.board.row.b_lt
                        have e2 := HH1.out.board.nums.lt
                        have e3 := HH1.out.ref.b_lt
                        exact ⟨fun e => by have := (HO2.out.lt _ e).1; omega, fun e => by have := (HO2.out.lt _ e).1; omega, fun e => by have := (HO2.out.lt _ e).1; omega⟩
                      have HGV : Hid (∀ W, Below W2.heap.size W2 W → Calls Tryd.prog 15 #[.pointer (some ⟨q, 0, none⟩), u2] W fun x w' => ∃ (e : Nat) (B' : Nat → Bool), e ≤ 12 ∧ x = .returned (.int .i64 (e : Nat)) ∧ GiveRel B N ls e B' ∧ HalfW w q p b f cap N rp rb X 2 kk (.slice la ls.length lc) B B' w' ∧ Nums w' u2 ls) := fun W hW => by
                        have hh := HH2.out.below hW
                        refine (act_give W q p b f cap N B u2 ls hh.board (HST.out _ hh.bel) (HU2.out.kept hW) HUB.out.1 HUB.out.2.1 HP0.out).mono fun x w' hx => ?_
                        obtain ⟨e, B', h1, h2, h3, h4, h5⟩ := hx
                        exact ⟨e, B', h1, h2, h3, hh.two h4 h5 HP.out.1 HP.out.2, (HU2.out.kept hW).only2 h5 HUB.out.1 HUB.out.2.1⟩
                      have HRG : Hid (∀ (W : World) (e : Nat) (B' : Nat → Bool), GiveRel B N ls e B' → HalfW w q p b f cap N rp rb X 2 kk (.slice la ls.length lc) B B' W → Nums W u2 ls → Calls Tryd.prog 16 #[.pointer (some ⟨rp, 0, none⟩), .slice la ls.length lc] W fun x w' => x = .returned (.int .i64 (e : Nat)) ∧ HalfW w q p b f cap N rp rb X 2 kk (.slice la ls.length lc) B' B' w' ∧ Nums w' u2 ls) := fun W e B' hrel hh hu =>
                        (act_refGive W rp rb N B B' _ ls e hh.ref (by omega) (HNL1.out W hh.bel) (fun hne e => by have h5 := HNG.out _ e hne; have h6 := HRB.out; omega) hrel).mono fun x w' hx => ⟨hx.1, hh.one hx.2.1 hx.2.2 HRB.out, hu.spared hx.2.2.size fun g hg hlt => hx.2.2.heap hlt fun e => HUB.out.2.2 (e ▸ hg)⟩
                      have HIN : Hid (∀ (W : World) (B' : Nat → Bool), HalfW w q p b f cap N rp rb X 2 kk (.slice la ls.length lc) B' B' W → Nums W u2 ls → Calls Tryd.prog 17 #[u2, .slice la ls.length lc] W fun x w' => x = .returned (.bool true) ∧ HalfW w q p b f cap N rp rb X 2 kk (.slice la ls.length lc) B' B' w') := fun W B' hh hu => by
                        refine (ints_any W _ _ ls ls hu (HNL1.out W hh.bel)).mono ?_
                        rintro x w' ⟨rfl, m, rfl⟩
                        exact ⟨by rw [decide_eq_true rfl], hh.below (below_drewN W m)⟩
                      have HX2 : Hid (∀ (W : World) (C D : Nat → Bool), HalfW w q p b f cap N rp rb X 2 kk (.slice la ls.length lc) C D W → World.cell? W ⟨X, 2, none⟩ = some (.slice la ls.length lc)) := fun W C D hh => by rw [cell_of_row W X _ _ _ _ hh.box]; rfl
                      have hc2 : W2.cell? ⟨X, 2, none⟩ = some (.slice la ls.length lc) := HX2.out W2 _ _ HH2.out
                      have HH2d : Hid (HalfW w q p b f cap N rp rb X 2 kk (.slice la ls.length lc) B B W2.drew) := HH2.out.below (Below.refl _ _).drew
                      clear x0 x1 x2 x2b HO2 HU2 k0 k1 hshu
                      go_wp2_with fail
                      go_region_held3 (fun w' => w'.cell? ⟨X, 2, none⟩ = some (.slice la ls.length lc)) (first | exact hc2 | exact HX2.out _ _ _ HH2d.out | exact HX2.out _ _ _ HG3.out | exact HX2.out _ _ _ HG4.out | exact HX2.out _ _ _ HH5.out) (first
                        | (go_at_call 15; refine (HGV.out _ (Below.refl _ _).drew).mono ?_; rintro e3 W3 ⟨e, B', he12, rfl, hrel, hh, hu⟩; have HREL : Hid (GiveRel B N ls e B') := hrel; have HG3 : Hid (HalfW w q p b f cap N rp rb X 2 kk (.slice la ls.length lc) B B' W3) := hh; have HU3 : Hid (Nums W3 u2 ls) := hu; clear hrel hh hu)
                        | (go_at_call 16; refine (HRG.out _ e B' HREL.out HG3.out HU3.out).mono ?_; rintro e4 W4 ⟨rfl, hh, hu⟩; have HG4 : Hid (HalfW w q p b f cap N rp rb X 2 kk (.slice la ls.length lc) B' B' W4) := hh; have HU4 : Hid (Nums W4 u2 ls) := hu; clear hh hu)
                        | (go_at_call 17; refine (HIN.out _ B' HG4.out HU4.out).mono ?_; rintro e5 W5 ⟨rfl, hh⟩; have HH5 : Hid (HalfW w q p b f cap N rp rb X 2 kk (.slice la ls.length lc) B' B' W5) := hh; clear hh))
                      all_goals
                        clear HGV HRG HIN HX2 hc2 HH2d HH2 HG3 HG4 HU3 HU4 HREL
                        go_wp2
                        go_meet
                        exact ⟨rfl, B', HH5⟩
                    · have HH5 : Hid (HalfW w q p b f cap N rp rb X kd kk (.slice la ls.length lc) B B W1) := HH1.out
                      have hk0 : (kd == 0) = false := by simp [k0]
                      have hk1 : (kd == 1) = false := by simp [k1]
                      have hk2 : (kd == 2) = false := by simp [k2]
                      go_wp2
                      go_meet
                      exact ⟨rfl, B, HH5⟩
            · go_wp2
              go_ret
              exact ⟨rfl, hI.out.bel⟩
      · have HG : Hid (¬ Good N (z1.take len1)) := hg
        clear hg hB2 HB
        go_wp2_with fail
        refine HRN.out.mono ?_
        rintro e w3 ⟨hB3, hcase⟩
        obtain ⟨hg2, _⟩ | ⟨_, rfl⟩ := hcase
        · exact absurd hg2 HG.out
        have HB3 : Hid (Below w.heap.size w w3) := HB2.out.trans (hB3.mono HB2.out.size)
        clear hB3
        go_wp2
        go_ret
        exact ⟨rfl, HB3.out⟩
end Go.Proofs.YthpodknhidgedaaDoor
