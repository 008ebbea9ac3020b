/- The document's Sort of keys. -/
import Derived.Test.YtfclhehpbniapaaRefHas10
import Derived.Test.YtfclhehpbniapaaWalkNum10
import Derived.Test.YtfclhehpbniapaaSort10
namespace Go.Proofs.Ytfclhehpbniapaa
open Go.RowKit
set_option linter.unusedVariables false
set_option maxRecDepth 20000

theorem keys_back0 {w : World} {g m cap j : Nat} {S : List Ky} (h : Keys w (.slice (some ⟨g, 0, none⟩) m cap) S) (hj : j < m) (h1 : m ≤ cap) (h2 : cap ≤ maxLen) : Keys w (.slice (some ⟨g, j * 2, none⟩) (m - j) (cap - j)) (S.drop j) := by
  have := Keys.back (cap' := cap - j) h hj (by omega) (by omega)
  rwa [Nat.zero_add] at this
theorem keys_none {S : List Ky} {j : Nat} (w : World) (a : Addr) (n c : Nat) (h : j = S.length) (hn : n = 0 := by omega) (hc : c ≤ maxLen := by omega) : Keys w (.slice (some a) n c) (S.drop j) := by
  subst h hn
  rw [List.drop_length]
  exact ⟨by simp, by simp, some a, c, rfl, Nat.zero_le _, hc, .inr ⟨a, rfl, .inl rfl⟩⟩
set_option maxRecDepth 20000 in
set_option maxHeartbeats 4000000 in
theorem refSort_any (w : World) (v : Value) (ks : List Ky) (hv : Keys w v ks) (hl : ks.length ≤ 1000) :
    Calls Try.prog 34 #[v] w fun e w' => ∃ u, e = .returned u ∧ Keys w' u (sortR ks) ∧ Below w.heap.size w w' ∧ ∀ g, u.ownBlock = some g → w.heap.size ≤ g := by
  have HK : Hid (∀ k ∈ ks, KI k) := hv.1
  obtain ⟨i0, hi, hz0, hz1, hz2⟩ := info_k
  obtain ⟨a, ca, rfl⟩ := hv.shape
  obtain ⟨n, hn⟩ : ∃ n, n = ks.length := ⟨_, rfl⟩
  rw [← hn] at hv hl ⊢
  have HN : Hid (n = ks.length) := hn
  have HV : Hid (Keys w (.slice a n ca) ks) := hv
  clear hn hv
  go_enter Try.func34, Try.ntmps34
  go_wp2_with fail
  go_loopw [3, 4] (fun v i wr => ∃ k : Nat, i = .int .i64 (k : Nat) ∧ k ≤ n ∧ wr.ownsRow w.heap.size 36 2 v (sortR (ks.take k)).length (kcells (sortR (ks.take k))) ∧ Hid (Below w.heap.size w wr) ∧ Hid (v = .slice none 0 0 ∨ 0 < (sortR (ks.take k)).length)) (fun _ i _ => n - (intOf i).toNat)
  case atStart => exact ⟨0, rfl, Nat.zero_le _, World.ownsRow_nil _ _ _ _, Below.refl _ _, .inl rfl⟩
  case round =>
    obtain ⟨k, rfl, hk, hrow, HB, HNZ⟩ := hrel
    have HRO : Hid (wr.ownsRow w.heap.size 36 2 u3 (sortR (ks.take k)).length (kcells (sortR (ks.take k)))) := hrow
    clear hrow
    have HKT : Hid (∀ k' ∈ sortR (ks.take k), KI k') := fun k' h => HK.out k' (List.mem_of_mem_take (sortR_mem.1 h))
    have HLL : Hid ((sortR (ks.take k)).length ≤ 1000) := by
      have h1 := sortR_len (ks.take k)
      rw [List.length_take] at h1
      unfold Hid
      omega
    have HKO : Hid (Keys wr u3 (sortR (ks.take k))) := Keys.ofOwn HRO.out HKT.out
    by_cases hlt : k < n
    · obtain ⟨b, off, rfl, hb, hc⟩ := HV.out.addr (by omega)
      obtain ⟨h, p, hkk⟩ := key_at (ks := ks) (j := k) (by rw [← HN.out]; exact hlt)
      have c0 : wr.cell? ⟨b, off + k * 2, none⟩ = some (.int .i64 h) := (HB.out.cell (p := ⟨b, off + k * 2, none⟩) hb).trans (hc k _ hkk).1
      have c1 : wr.cell? ⟨b, off + k * 2 + 1, none⟩ = some (.int .i64 p) := (HB.out.cell (p := ⟨b, off + k * 2 + 1, none⟩) hb).trans (hc k _ hkk).2
      have HI : Hid (KI (h, p)) := HV.out.fit hkk
      have HC00 : Hid (w.cell? ⟨b, off + k * 2, none⟩ = some (.int .i64 h) ∧ w.cell? ⟨b, off + k * 2 + 1, none⟩ = some (.int .i64 p)) := hc k _ hkk
      have HTS : Hid (sortR (ks.take (k + 1)) = ins (sortR (ks.take k)) (h, p)) := by unfold Hid; rw [take_snocA hkk, sortR_snoc]
      have HBK : Hid (b < w.heap.size) := hb
      clear hc hb hkk
      generalize hS : sortR (ks.take k) = S at *
      clear hS
      have HH : Hid (Calls Try.prog 33 #[u3, .agg #[.int .i64 h, .int .i64 p]] wr fun e w' => e = .returned (.bool (hasK S (h, p))) ∧ Below wr.heap.size wr w') := has_any wr u3 S h p HKO.out
      go_wp2_with fail
      refine HH.out.mono ?_
      rintro e w2 ⟨rfl, hB2⟩
      have HB2 : Hid (Below wr.heap.size wr w2) := hB2
      have HB3 : Hid (Below w.heap.size w w2) := HB.out.trans (hB2.mono HB.out.size)
      have HRO2 : Hid (w2.ownsRow w.heap.size 36 2 u3 S.length (kcells S)) := HRO.out.kept (grown_below hB2) (by cases hv : u3.ownBlock <;> simp)
      clear hB2 HH
      by_cases hin : (h, p) ∈ S
      · have hhk : hasK S (h, p) = true := decide_eq_true hin
        have HE : Hid (sortR (ks.take (k + 1)) = S) := by unfold Hid; rw [HTS.out]; unfold ins; rw [if_pos hin]
        rw [hhk]
        clear hhk hin
        go_wp2_with fail
        go_roundw
        case rel => exact ⟨k + 1, by go_num, by omega, by rw [HE.out]; exact HRO2.out, HB3.out, by rw [HE.out]; exact HNZ.out⟩
        case measure => simp [intOf]; omega
      · have hhk : hasK S (h, p) = false := decide_eq_false hin
        have HE : Hid (sortR (ks.take (k + 1)) = S.take (pos (h, p) S) ++ (h, p) :: S.drop (pos (h, p) S)) := by unfold Hid; rw [HTS.out]; unfold ins; rw [if_neg hin]
        rw [hhk]
        clear hhk hin HTS
        -- BEGIN TAIL
        have HCW : Hid (∀ W, Below w2.heap.size w2 W → W.cell? ⟨b, off + k * 2, none⟩ = some (.int .i64 h) ∧ W.cell? ⟨b, off + k * 2 + 1, none⟩ = some (.int .i64 p)) := fun W hW => by
          have h1 := HB3.out.trans (hW.mono HB3.out.size)
          exact ⟨(h1.cell (p := ⟨b, off + k * 2, none⟩) HBK.out).trans (HC00.out.1), (h1.cell (p := ⟨b, off + k * 2 + 1, none⟩) HBK.out).trans (HC00.out.2)⟩
        obtain ⟨q, hq⟩ : ∃ q, q = pos (h, p) S := ⟨_, rfl⟩
        rw [← hq] at HE
        have HPQ : Hid (pos (h, p) S = q) := hq.symm
        have HPL : Hid (q ≤ S.length) := by rw [hq]; exact pos_le _ _
        clear hq c0 c1
        have HKO2 : Hid (Keys w2 u3 S) := Keys.ofOwn HRO2.out HKT.out
        clear HKO HRO
        obtain ⟨m, hm⟩ : ∃ m, m = S.length := ⟨_, rfl⟩
        rw [← hm] at HPL HRO2 HLL HNZ
        have HML : Hid (m = S.length) := hm
        clear hm
        rcases HRO2.out.2 with ⟨rfl, hm0⟩ | ⟨g, cap, cur, rfl, hbase, hbl, g1, g2, g3, g4⟩
        · have HSn : Hid (S = []) := List.eq_nil_of_length_eq_zero (by have := HML.out; omega)
          have hq0 : q = 0 := by have := HPL.out; omega
          subst hm0 hq0
          go_wp2_with fail
          go_loopw [5] (fun i wi => ∃ j : Nat, i = .int .i64 (j : Nat) ∧ j ≤ 0 ∧ Hid (Below w2.heap.size w2 wi)) (fun i _ => 0 - (intOf i).toNat)
          case atStart => exact ⟨0, rfl, Nat.zero_le _, Below.refl _ _⟩
          case round =>
            obtain ⟨j, rfl, hj, HBI⟩ := hrel
            have hj0 : j = 0 := by omega
            subst hj0
            go_wp2_with fail
            go_quiet (fail)
            have HBI2 : Hid (Below w2.heap.size w2 (wr.drewN nq)) := HBI.out.trans ((below_dr wr nq).mono HBI.out.size)
            clear HBI
            have HBI : Hid (Below w2.heap.size w2 (wr.drewN nq)) := HBI2.out
            clear HBI2
            generalize wr.drewN nq = wz at *
            have HA1 : Hid (Keys wz (.slice none 0 0) (S.take 0)) := (by rw [HSn.out, List.take_nil]; exact Keys.nil _)
            have HA2 : Hid (∀ W, Below wz.heap.size wz W → Keys W (.slice none 0 0) (S.drop 0)) := fun W hW => Keys.kept (by rw [HSn.out, List.drop_nil]; exact Keys.nil _) hW
            have HLA : Hid ((S.take 0).length ≤ 1000 ∧ (S.drop 0).length ≤ 1000 ∧ (S.take 0).length + (S.drop 0).length ≤ 1000) := by
              have h1 := HLL.out
              have h2 := HML.out
              refine ⟨?_, ?_, ?_⟩ <;> (try rw [List.length_take]) <;> (try rw [List.length_drop]) <;> omega
            go_wp2_with (first
              | (at_builtin; refine wpList_append_keys _ rfl _ _ 34 (by rfl) wz.heap.size 36 i0 Try.underlying34 hi hz0 hz1 hz2 (.slice none 0 0) 0 [] (by rfl) (World.ownsRow_nil _ _ _ _) (.slice none 0 0) (S.take 0) (by rfl) HA1.out (by have := HLA.out.1; omega) (Nat.le_refl _) ?_; intro v7 w7 hown7 hg7 hat7; have HO7 : Hid (w7.ownsRow wz.heap.size 36 2 v7 (0 + (S.take 0).length) (kcells ([] ++ S.take 0))) := hown7; have HB7 : Hid (Below wz.heap.size wz w7) := ⟨hg7.os, hg7.tape, hg7.output, hg7.size, fun i hi => hg7.block i hi (by simp [Value.ownBlock])⟩; have y0 : w7.cell? ⟨b, off + k * 2, none⟩ = some (.int .i64 h) := (HCW.out w7 (HBI.out.trans (HB7.out.mono HBI.out.size))).1; have y1 : w7.cell? ⟨b, off + k * 2 + 1, none⟩ = some (.int .i64 p) := (HCW.out w7 (HBI.out.trans (HB7.out.mono HBI.out.size))).2; have HK1 : Hid (Keys (w7.alloc (.cells #[.int .i64 h, .int .i64 p] 36)) (.slice (some ⟨w7.heap.size, 0, none⟩) 1 1) [(h, p)]) := Keys.one (k := (h, p)) HI.out; clear hown7 hg7 hat7; go_frame)
              | (at_builtin; refine wpList_append_keys _ rfl _ _ 34 (by rfl) wz.heap.size 36 i0 Try.underlying34 hi hz0 hz1 hz2 v7 (0 + (S.take 0).length) ([] ++ S.take 0) (by rfl) (HO7.out.alloc _) (.slice (some ⟨w7.heap.size, 0, none⟩) 1 1) [(h, p)] (by rfl) HK1.out (by have := HLA.out.1; simp only [List.length_singleton]; omega) (by have := HB7.out.size; simp; omega) ?_; intro v8 w8 hown8 hg8 hat8; have HO8 : Hid (w8.ownsRow wz.heap.size 36 2 v8 (0 + (S.take 0).length + [(h, p)].length) (kcells ([] ++ S.take 0 ++ [(h, p)]))) := hown8; have HB8 : Hid (Below wz.heap.size wz w8) := (HB7.out.alloc HB7.out.size _).grown hg8 (by have := HB7.out.size; simp; omega) (fun i hi => (HO7.out.lt i hi).1); clear hown8 hg8 hat8; go_frame)
              | (at_builtin; refine wpList_append_keys _ rfl _ _ 34 (by rfl) wz.heap.size 36 i0 Try.underlying34 hi hz0 hz1 hz2 v8 (0 + (S.take 0).length + [(h, p)].length) ([] ++ S.take 0 ++ [(h, p)]) (by rfl) HO8.out (.slice none 0 0) (S.drop 0) (by rfl) (HA2.out _ HB8.out) (by have := HLA.out.2.2; simp only [List.length_singleton]; omega) HB8.out.size ?_; intro v9 w9 hown9 hg9 hat9; have HO9 : Hid (w9.ownsRow wz.heap.size 36 2 v9 (0 + (S.take 0).length + [(h, p)].length + (S.drop 0).length) (kcells ([] ++ S.take 0 ++ [(h, p)] ++ S.drop 0))) := hown9; have HB9 : Hid (Below wz.heap.size wz w9) := HB8.out.grown hg9 HB8.out.size (fun i hi => (HO8.out.lt i hi).1); clear hown9 hg9 hat9; go_frame)
              | go_in)
            have HFIN : Hid (w9.ownsRow w.heap.size 36 2 v9 (sortR (ks.take (k + 1))).length (kcells (sortR (ks.take (k + 1))))) := by
              have e1 : [] ++ S.take 0 ++ [(h, p)] ++ S.drop 0 = sortR (ks.take (k + 1)) := by rw [HE.out]; simp
              have e2 : 0 + (S.take 0).length + [(h, p)].length + (S.drop 0).length = (sortR (ks.take (k + 1))).length := by rw [HE.out]; simp; omega
              have := HO9.out
              rw [e1, e2] at this
              exact own_base this (by have := HB3.out.size; have := HBI.out.size; omega)
            have HNF : Hid (v9 = .slice none 0 0 ∨ 0 < (sortR (ks.take (k + 1))).length) := .inr (by rw [HE.out, List.length_append, List.length_cons]; omega)
            have HBF : Hid (Below w.heap.size w w9) := HB3.out.trans ((HBI.out.trans (HB9.out.mono HBI.out.size)).mono HB3.out.size)
            go_roundw
            case rel => exact ⟨k + 1, by go_num, by omega, HFIN.out, HBF.out, HNF.out⟩
            case measure => simp [intOf]; omega
        · have HSW : Hid (∀ W, Below w2.heap.size w2 W → ∀ j kk, S[j]? = some kk → W.cell? ⟨g, j * 2, none⟩ = some (.int .i64 kk.1) ∧ W.cell? ⟨g, j * 2 + 1, none⟩ = some (.int .i64 kk.2)) := fun W hW j kk hjk => by
            have hk1 := HKO2.out.kept hW
            have hjl : j < m := by have := (List.getElem?_eq_some_iff.1 hjk).1; have := HML.out; omega
            obtain ⟨b', off', e', _, hcell⟩ := hk1.addr (by omega)
            simp only [Option.some.injEq, Addr.mk.injEq, and_true] at e'
            obtain ⟨rfl, rfl⟩ := e'
            have := hcell j kk hjk
            simpa using this
          have HGB : Hid (g < w2.heap.size) := (Array.getElem?_eq_some_iff.1 hbl).1
          have HM0 : Hid (0 < m) := HNZ.out.resolve_left (by simp)
          have HCP : Hid (m ≤ cap ∧ cap ≤ maxLen) := ⟨g1, g2⟩
          clear hbase hbl g3 g4 g1 g2
          go_wp2_with fail
          go_loopw [5] (fun i wi => ∃ j : Nat, i = .int .i64 (j : Nat) ∧ j ≤ q ∧ Hid (Below w2.heap.size w2 wi)) (fun i _ => q - (intOf i).toNat)
          case atStart => exact ⟨0, rfl, Nat.zero_le _, Below.refl _ _⟩
          case round =>
            obtain ⟨j, rfl, hj, HBI⟩ := hrel
            by_cases hjq : j < q
            · obtain ⟨h', p', hkk⟩ := key_at (ks := S) (j := j) (by have := HPL.out; have := HML.out; omega)
              have HLT : Hid (ltK (h', p') (h, p) = true) := by
                have h1 := pos_below (h, p) S j (by have := HPL.out; have := HML.out; omega) (by rw [HPQ.out]; exact hjq)
                rw [List.getElem?_eq_getElem (by have := HPL.out; have := HML.out; omega), Option.some.injEq] at hkk
                rw [hkk] at h1
                exact decide_eq_true h1
              have z0 : wr.cell? ⟨b, off + k * 2, none⟩ = some (.int .i64 h) := (HCW.out wr HBI.out).1
              have z1 : wr.cell? ⟨b, off + k * 2 + 1, none⟩ = some (.int .i64 p) := (HCW.out wr HBI.out).2
              have z2 : wr.cell? ⟨g, j * 2, none⟩ = some (.int .i64 h') := (HSW.out wr HBI.out j _ hkk).1
              have z3 : wr.cell? ⟨g, j * 2 + 1, none⟩ = some (.int .i64 p') := (HSW.out wr HBI.out j _ hkk).2
              have HSK : Hid (∀ w', Below w2.heap.size w2 w' → w'.cell? ⟨b, off + k * 2, none⟩ = some (.int .i64 h) ∧ w'.cell? ⟨b, off + k * 2 + 1, none⟩ = some (.int .i64 p) ∧ w'.cell? ⟨g, j * 2, none⟩ = some (.int .i64 h') ∧ w'.cell? ⟨g, j * 2 + 1, none⟩ = some (.int .i64 p')) := fun w' hw => ⟨(HCW.out w' hw).1, (HCW.out w' hw).2, (HSW.out w' hw j _ hkk).1, (HSW.out w' hw j _ hkk).2⟩
              have HLESS : Hid (∀ W, Calls Try.prog 17 #[.agg #[.int .i64 h', .int .i64 p'], .agg #[.int .i64 h, .int .i64 p]] W fun e w' => e = .returned (.bool true) ∧ Below W.heap.size W w') := fun W => by
                have := refLess_any h' p' h p W
                rwa [HLT.out] at this
              have hjm : j < m := by have := HPL.out; omega
              have hm1 : m ≤ 1000 := HLL.out
              clear hkk HLT
              go_wp2_with fail
              have HIW : Hid (wr.heap.size = wr.drew.heap.size) := rfl
              go_region_held3 (fun w' => w'.cell? ⟨b, off + k * 2, none⟩ = some (.int .i64 h) ∧ w'.cell? ⟨b, off + k * 2 + 1, none⟩ = some (.int .i64 p) ∧ w'.cell? ⟨g, j * 2, none⟩ = some (.int .i64 h') ∧ w'.cell? ⟨g, j * 2 + 1, none⟩ = some (.int .i64 p')) (first | exact ⟨z0, z1, z2, z3⟩ | exact HSK.out _ HBX.out) (first
                | (go_at_call 17; refine (HLESS.out _).mono ?_; rintro e9 wx ⟨rfl, hBX⟩; have HBX : Hid (Below w2.heap.size w2 wx) := HBI.out.trans (((below_dr1 wr).trans hBX).mono HBI.out.size); clear hBX))
              all_goals
                go_wp2
                go_roundw
                case rel => exact ⟨j + 1, by go_num, by omega, HBX.out⟩
                case measure => simp [intOf]; omega
            · have hjq' : j = q := by omega
              subst hjq'
              by_cases hjm : j < m
              · obtain ⟨h', p', hkk⟩ := key_at (ks := S) (j := j) (by have := HML.out; omega)
                have HLT : Hid (ltK (h', p') (h, p) = false) := by
                  have h1 := pos_stop (h, p) S (by rw [HPQ.out]; have := HML.out; omega)
                  have h2 : S[pos (h, p) S]'(by rw [HPQ.out]; have := HML.out; omega) = (h', p') := by
                    have h3 := hkk
                    rw [← HPQ.out, List.getElem?_eq_getElem (by rw [HPQ.out]; have := HML.out; omega), Option.some.injEq] at h3
                    exact h3
                  rw [h2] at h1
                  exact decide_eq_false h1
                have z0 : wr.cell? ⟨b, off + k * 2, none⟩ = some (.int .i64 h) := (HCW.out wr HBI.out).1
                have z1 : wr.cell? ⟨b, off + k * 2 + 1, none⟩ = some (.int .i64 p) := (HCW.out wr HBI.out).2
                have z2 : wr.cell? ⟨g, j * 2, none⟩ = some (.int .i64 h') := (HSW.out wr HBI.out j _ hkk).1
                have z3 : wr.cell? ⟨g, j * 2 + 1, none⟩ = some (.int .i64 p') := (HSW.out wr HBI.out j _ hkk).2
                have HSK : Hid (∀ w', Below w2.heap.size w2 w' → w'.cell? ⟨b, off + k * 2, none⟩ = some (.int .i64 h) ∧ w'.cell? ⟨b, off + k * 2 + 1, none⟩ = some (.int .i64 p) ∧ w'.cell? ⟨g, j * 2, none⟩ = some (.int .i64 h') ∧ w'.cell? ⟨g, j * 2 + 1, none⟩ = some (.int .i64 p')) := fun w' hw => ⟨(HCW.out w' hw).1, (HCW.out w' hw).2, (HSW.out w' hw j _ hkk).1, (HSW.out w' hw j _ hkk).2⟩
                have HLESS : Hid (∀ W, Calls Try.prog 17 #[.agg #[.int .i64 h', .int .i64 p'], .agg #[.int .i64 h, .int .i64 p]] W fun e w' => e = .returned (.bool false) ∧ Below W.heap.size W w') := fun W => by
                  have := refLess_any h' p' h p W
                  rwa [HLT.out] at this
                have hm1 : m ≤ 1000 := HLL.out
                clear hkk HLT
                go_wp2_with fail
                go_region_held3 (fun w' => w'.cell? ⟨b, off + k * 2, none⟩ = some (.int .i64 h) ∧ w'.cell? ⟨b, off + k * 2 + 1, none⟩ = some (.int .i64 p) ∧ w'.cell? ⟨g, j * 2, none⟩ = some (.int .i64 h') ∧ w'.cell? ⟨g, j * 2 + 1, none⟩ = some (.int .i64 p')) (first | exact ⟨z0, z1, z2, z3⟩ | exact HSK.out _ HBX.out) (first
                  | (go_at_call 17; refine (HLESS.out _).mono ?_; rintro e9 wx ⟨rfl, hBX⟩; have HBX : Hid (Below w2.heap.size w2 wx) := HBI.out.trans (((below_dr1 wr).trans hBX).mono HBI.out.size); clear hBX))
                all_goals
                  clear HBI HSK HLESS z0 z1 z2 z3
                  have HBI : Hid (Below w2.heap.size w2 wx) := HBX.out
                  clear HBX
                  generalize wx = wz at *
                  have hcp1 : m ≤ cap := HCP.out.1
                  have hcp2 : cap ≤ 9223372036854775807 := by have := HCP.out.2; unfold maxLen at this; omega
                  have hcj : (cap = j) = False := eq_false (by omega)
                  have HA1 : Hid (Keys wz (.slice (some ⟨g, 0, none⟩) j cap) (S.take j)) := (HKO2.out.kept HBI.out).front (by omega)
                  have HA2 : Hid (∀ W, Below wz.heap.size wz W → Keys W (.slice (some ⟨g, j * 2, none⟩) (m - j) (cap - j)) (S.drop j)) := fun W hW => Keys.kept (keys_back0 (HKO2.out.kept HBI.out) hjm HCP.out.1 HCP.out.2) hW
                  have HLA : Hid ((S.take j).length ≤ 1000 ∧ (S.drop j).length ≤ 1000 ∧ (S.take j).length + (S.drop j).length ≤ 1000) := by
                    have h1 := HLL.out
                    have h2 := HML.out
                    refine ⟨?_, ?_, ?_⟩ <;> (try rw [List.length_take]) <;> (try rw [List.length_drop]) <;> omega
                  go_wp2_with (first
                    | (at_builtin; refine wpList_append_keys _ rfl _ _ 34 (by rfl) wz.heap.size 36 i0 Try.underlying34 hi hz0 hz1 hz2 (.slice none 0 0) 0 [] (by rfl) (World.ownsRow_nil _ _ _ _) (.slice (some ⟨g, 0, none⟩) j cap) (S.take j) (by rfl) HA1.out (by have := HLA.out.1; omega) (Nat.le_refl _) ?_; intro v7 w7 hown7 hg7 hat7; have HO7 : Hid (w7.ownsRow wz.heap.size 36 2 v7 (0 + (S.take j).length) (kcells ([] ++ S.take j))) := hown7; have HB7 : Hid (Below wz.heap.size wz w7) := ⟨hg7.os, hg7.tape, hg7.output, hg7.size, fun i hi => hg7.block i hi (by simp [Value.ownBlock])⟩; have y0 : w7.cell? ⟨b, off + k * 2, none⟩ = some (.int .i64 h) := (HCW.out w7 (HBI.out.trans (HB7.out.mono HBI.out.size))).1; have y1 : w7.cell? ⟨b, off + k * 2 + 1, none⟩ = some (.int .i64 p) := (HCW.out w7 (HBI.out.trans (HB7.out.mono HBI.out.size))).2; have HK1 : Hid (Keys (w7.alloc (.cells #[.int .i64 h, .int .i64 p] 36)) (.slice (some ⟨w7.heap.size, 0, none⟩) 1 1) [(h, p)]) := Keys.one (k := (h, p)) HI.out; clear hown7 hg7 hat7; go_frame)
                    | (at_builtin; refine wpList_append_keys _ rfl _ _ 34 (by rfl) wz.heap.size 36 i0 Try.underlying34 hi hz0 hz1 hz2 v7 (0 + (S.take j).length) ([] ++ S.take j) (by rfl) (HO7.out.alloc _) (.slice (some ⟨w7.heap.size, 0, none⟩) 1 1) [(h, p)] (by rfl) HK1.out (by have := HLA.out.1; simp only [List.length_singleton]; omega) (by have := HB7.out.size; simp; omega) ?_; intro v8 w8 hown8 hg8 hat8; have HO8 : Hid (w8.ownsRow wz.heap.size 36 2 v8 (0 + (S.take j).length + [(h, p)].length) (kcells ([] ++ S.take j ++ [(h, p)]))) := hown8; have HB8 : Hid (Below wz.heap.size wz w8) := (HB7.out.alloc HB7.out.size _).grown hg8 (by have := HB7.out.size; simp; omega) (fun i hi => (HO7.out.lt i hi).1); clear hown8 hg8 hat8; go_frame)
                    | (at_builtin; refine wpList_append_keys _ rfl _ _ 34 (by rfl) wz.heap.size 36 i0 Try.underlying34 hi hz0 hz1 hz2 v8 (0 + (S.take j).length + [(h, p)].length) ([] ++ S.take j ++ [(h, p)]) (by rfl) HO8.out (.slice (some ⟨g, j * 2, none⟩) (m - j) (cap - j)) (S.drop j) (by rfl) (HA2.out _ HB8.out) (by have := HLA.out.2.2; simp only [List.length_singleton]; omega) HB8.out.size ?_; intro v9 w9 hown9 hg9 hat9; have HO9 : Hid (w9.ownsRow wz.heap.size 36 2 v9 (0 + (S.take j).length + [(h, p)].length + (S.drop j).length) (kcells ([] ++ S.take j ++ [(h, p)] ++ S.drop j))) := hown9; have HB9 : Hid (Below wz.heap.size wz w9) := HB8.out.grown hg9 HB8.out.size (fun i hi => (HO8.out.lt i hi).1); clear hown9 hg9 hat9; go_frame)
                    | go_in)
                  have HFIN : Hid (w9.ownsRow w.heap.size 36 2 v9 (sortR (ks.take (k + 1))).length (kcells (sortR (ks.take (k + 1))))) := by
                    have e1 : [] ++ S.take j ++ [(h, p)] ++ S.drop j = sortR (ks.take (k + 1)) := by rw [HE.out]; simp
                    have e2 : 0 + (S.take j).length + [(h, p)].length + (S.drop j).length = (sortR (ks.take (k + 1))).length := by rw [HE.out]; simp; omega
                    have := HO9.out
                    rw [e1, e2] at this
                    exact own_base this (by have := HB3.out.size; have := HBI.out.size; omega)
                  have HNF : Hid (v9 = .slice none 0 0 ∨ 0 < (sortR (ks.take (k + 1))).length) := .inr (by rw [HE.out, List.length_append, List.length_cons]; omega)
                  have HBF : Hid (Below w.heap.size w w9) := HB3.out.trans ((HBI.out.trans (HB9.out.mono HBI.out.size)).mono HB3.out.size)
                  go_roundw
                  case rel => exact ⟨k + 1, by go_num, by omega, HFIN.out, HBF.out, HNF.out⟩
                  case measure => simp [intOf]; omega

              · have hjm' : j = m := by have := HPL.out; omega
                subst hjm'
                have hm1 : j ≤ 1000 := HLL.out
                go_wp2_with fail
                go_quiet (fail)
                have HBI2 : Hid (Below w2.heap.size w2 (wr.drewN nq)) := HBI.out.trans ((below_dr wr nq).mono HBI.out.size)
                clear HBI
                have HBI : Hid (Below w2.heap.size w2 (wr.drewN nq)) := HBI2.out
                clear HBI2
                generalize wr.drewN nq = wz at *
                have hcp1 : j ≤ cap := HCP.out.1
                have hcp2 : cap ≤ 9223372036854775807 := by have := HCP.out.2; unfold maxLen at this; omega
                have hj0 : 0 < j := HM0.out
                by_cases hcap : cap = j
                · have hcap2 : j = cap := hcap.symm
                  clear hcap
                  subst hcap2
                  have HA1 : Hid (Keys wz (.slice (some ⟨g, 0, none⟩) j j) (S.take j)) := (HKO2.out.kept HBI.out).front (Nat.le_refl _)
                  have HA2 : Hid (∀ W, Below wz.heap.size wz W → Keys W (.slice (some ⟨g, 0, none⟩) 0 0) (S.drop j)) := fun W hW => Keys.kept (keys_none _ _ _ _ HML.out (by omega) (by unfold maxLen; omega)) hW
                  have HLA : Hid ((S.take j).length ≤ 1000 ∧ (S.drop j).length ≤ 1000 ∧ (S.take j).length + (S.drop j).length ≤ 1000) := by
                    have h1 := HLL.out
                    have h2 := HML.out
                    refine ⟨?_, ?_, ?_⟩ <;> (try rw [List.length_take]) <;> (try rw [List.length_drop]) <;> omega
                  go_wp2_with (first
                    | (at_builtin; refine wpList_append_keys _ rfl _ _ 34 (by rfl) wz.heap.size 36 i0 Try.underlying34 hi hz0 hz1 hz2 (.slice none 0 0) 0 [] (by rfl) (World.ownsRow_nil _ _ _ _) (.slice (some ⟨g, 0, none⟩) j j) (S.take j) (by rfl) HA1.out (by have := HLA.out.1; omega) (Nat.le_refl _) ?_; intro v7 w7 hown7 hg7 hat7; have HO7 : Hid (w7.ownsRow wz.heap.size 36 2 v7 (0 + (S.take j).length) (kcells ([] ++ S.take j))) := hown7; have HB7 : Hid (Below wz.heap.size wz w7) := ⟨hg7.os, hg7.tape, hg7.output, hg7.size, fun i hi => hg7.block i hi (by simp [Value.ownBlock])⟩; have y0 : w7.cell? ⟨b, off + k * 2, none⟩ = some (.int .i64 h) := (HCW.out w7 (HBI.out.trans (HB7.out.mono HBI.out.size))).1; have y1 : w7.cell? ⟨b, off + k * 2 + 1, none⟩ = some (.int .i64 p) := (HCW.out w7 (HBI.out.trans (HB7.out.mono HBI.out.size))).2; have HK1 : Hid (Keys (w7.alloc (.cells #[.int .i64 h, .int .i64 p] 36)) (.slice (some ⟨w7.heap.size, 0, none⟩) 1 1) [(h, p)]) := Keys.one (k := (h, p)) HI.out; clear hown7 hg7 hat7; go_frame)
                    | (at_builtin; refine wpList_append_keys _ rfl _ _ 34 (by rfl) wz.heap.size 36 i0 Try.underlying34 hi hz0 hz1 hz2 v7 (0 + (S.take j).length) ([] ++ S.take j) (by rfl) (HO7.out.alloc _) (.slice (some ⟨w7.heap.size, 0, none⟩) 1 1) [(h, p)] (by rfl) HK1.out (by have := HLA.out.1; simp only [List.length_singleton]; omega) (by have := HB7.out.size; simp; omega) ?_; intro v8 w8 hown8 hg8 hat8; have HO8 : Hid (w8.ownsRow wz.heap.size 36 2 v8 (0 + (S.take j).length + [(h, p)].length) (kcells ([] ++ S.take j ++ [(h, p)]))) := hown8; have HB8 : Hid (Below wz.heap.size wz w8) := (HB7.out.alloc HB7.out.size _).grown hg8 (by have := HB7.out.size; simp; omega) (fun i hi => (HO7.out.lt i hi).1); clear hown8 hg8 hat8; go_frame)
                    | (at_builtin; refine wpList_append_keys _ rfl _ _ 34 (by rfl) wz.heap.size 36 i0 Try.underlying34 hi hz0 hz1 hz2 v8 (0 + (S.take j).length + [(h, p)].length) ([] ++ S.take j ++ [(h, p)]) (by rfl) HO8.out (.slice (some ⟨g, 0, none⟩) 0 0) (S.drop j) (by rfl) (HA2.out _ HB8.out) (by have := HLA.out.2.2; simp only [List.length_singleton]; omega) HB8.out.size ?_; intro v9 w9 hown9 hg9 hat9; have HO9 : Hid (w9.ownsRow wz.heap.size 36 2 v9 (0 + (S.take j).length + [(h, p)].length + (S.drop j).length) (kcells ([] ++ S.take j ++ [(h, p)] ++ S.drop j))) := hown9; have HB9 : Hid (Below wz.heap.size wz w9) := HB8.out.grown hg9 HB8.out.size (fun i hi => (HO8.out.lt i hi).1); clear hown9 hg9 hat9; go_frame)
                    | go_in)
                  have HFIN : Hid (w9.ownsRow w.heap.size 36 2 v9 (sortR (ks.take (k + 1))).length (kcells (sortR (ks.take (k + 1))))) := by
                    have e1 : [] ++ S.take j ++ [(h, p)] ++ S.drop j = sortR (ks.take (k + 1)) := by rw [HE.out]; simp
                    have e2 : 0 + (S.take j).length + [(h, p)].length + (S.drop j).length = (sortR (ks.take (k + 1))).length := by rw [HE.out]; simp; omega
                    have := HO9.out
                    rw [e1, e2] at this
                    exact own_base this (by have := HB3.out.size; have := HBI.out.size; omega)
                  have HNF : Hid (v9 = .slice none 0 0 ∨ 0 < (sortR (ks.take (k + 1))).length) := .inr (by rw [HE.out, List.length_append, List.length_cons]; omega)
                  have HBF : Hid (Below w.heap.size w w9) := HB3.out.trans ((HBI.out.trans (HB9.out.mono HBI.out.size)).mono HB3.out.size)
                  go_roundw
                  case rel => exact ⟨k + 1, by go_num, by omega, HFIN.out, HBF.out, HNF.out⟩
                  case measure => simp [intOf]; omega

                · have hcj : (cap = j) = False := eq_false hcap
                  clear hcap
                  have HA1 : Hid (Keys wz (.slice (some ⟨g, 0, none⟩) j cap) (S.take j)) := (HKO2.out.kept HBI.out).front (Nat.le_refl _)
                  have HA2 : Hid (∀ W, Below wz.heap.size wz W → Keys W (.slice (some ⟨g, j * 2, none⟩) 0 (cap - j)) (S.drop j)) := fun W hW => Keys.kept (keys_none _ _ _ _ HML.out (by omega) (by have := HCP.out.2; omega)) hW
                  have HLA : Hid ((S.take j).length ≤ 1000 ∧ (S.drop j).length ≤ 1000 ∧ (S.take j).length + (S.drop j).length ≤ 1000) := by
                    have h1 := HLL.out
                    have h2 := HML.out
                    refine ⟨?_, ?_, ?_⟩ <;> (try rw [List.length_take]) <;> (try rw [List.length_drop]) <;> omega
                  go_wp2_with (first
                    | (at_builtin; refine wpList_append_keys _ rfl _ _ 34 (by rfl) wz.heap.size 36 i0 Try.underlying34 hi hz0 hz1 hz2 (.slice none 0 0) 0 [] (by rfl) (World.ownsRow_nil _ _ _ _) (.slice (some ⟨g, 0, none⟩) j cap) (S.take j) (by rfl) HA1.out (by have := HLA.out.1; omega) (Nat.le_refl _) ?_; intro v7 w7 hown7 hg7 hat7; have HO7 : Hid (w7.ownsRow wz.heap.size 36 2 v7 (0 + (S.take j).length) (kcells ([] ++ S.take j))) := hown7; have HB7 : Hid (Below wz.heap.size wz w7) := ⟨hg7.os, hg7.tape, hg7.output, hg7.size, fun i hi => hg7.block i hi (by simp [Value.ownBlock])⟩; have y0 : w7.cell? ⟨b, off + k * 2, none⟩ = some (.int .i64 h) := (HCW.out w7 (HBI.out.trans (HB7.out.mono HBI.out.size))).1; have y1 : w7.cell? ⟨b, off + k * 2 + 1, none⟩ = some (.int .i64 p) := (HCW.out w7 (HBI.out.trans (HB7.out.mono HBI.out.size))).2; have HK1 : Hid (Keys (w7.alloc (.cells #[.int .i64 h, .int .i64 p] 36)) (.slice (some ⟨w7.heap.size, 0, none⟩) 1 1) [(h, p)]) := Keys.one (k := (h, p)) HI.out; clear hown7 hg7 hat7; go_frame)
                    | (at_builtin; refine wpList_append_keys _ rfl _ _ 34 (by rfl) wz.heap.size 36 i0 Try.underlying34 hi hz0 hz1 hz2 v7 (0 + (S.take j).length) ([] ++ S.take j) (by rfl) (HO7.out.alloc _) (.slice (some ⟨w7.heap.size, 0, none⟩) 1 1) [(h, p)] (by rfl) HK1.out (by have := HLA.out.1; simp only [List.length_singleton]; omega) (by have := HB7.out.size; simp; omega) ?_; intro v8 w8 hown8 hg8 hat8; have HO8 : Hid (w8.ownsRow wz.heap.size 36 2 v8 (0 + (S.take j).length + [(h, p)].length) (kcells ([] ++ S.take j ++ [(h, p)]))) := hown8; have HB8 : Hid (Below wz.heap.size wz w8) := (HB7.out.alloc HB7.out.size _).grown hg8 (by have := HB7.out.size; simp; omega) (fun i hi => (HO7.out.lt i hi).1); clear hown8 hg8 hat8; go_frame)
                    | (at_builtin; refine wpList_append_keys _ rfl _ _ 34 (by rfl) wz.heap.size 36 i0 Try.underlying34 hi hz0 hz1 hz2 v8 (0 + (S.take j).length + [(h, p)].length) ([] ++ S.take j ++ [(h, p)]) (by rfl) HO8.out (.slice (some ⟨g, j * 2, none⟩) 0 (cap - j)) (S.drop j) (by rfl) (HA2.out _ HB8.out) (by have := HLA.out.2.2; simp only [List.length_singleton]; omega) HB8.out.size ?_; intro v9 w9 hown9 hg9 hat9; have HO9 : Hid (w9.ownsRow wz.heap.size 36 2 v9 (0 + (S.take j).length + [(h, p)].length + (S.drop j).length) (kcells ([] ++ S.take j ++ [(h, p)] ++ S.drop j))) := hown9; have HB9 : Hid (Below wz.heap.size wz w9) := HB8.out.grown hg9 HB8.out.size (fun i hi => (HO8.out.lt i hi).1); clear hown9 hg9 hat9; go_frame)
                    | go_in)
                  have HFIN : Hid (w9.ownsRow w.heap.size 36 2 v9 (sortR (ks.take (k + 1))).length (kcells (sortR (ks.take (k + 1))))) := by
                    have e1 : [] ++ S.take j ++ [(h, p)] ++ S.drop j = sortR (ks.take (k + 1)) := by rw [HE.out]; simp
                    have e2 : 0 + (S.take j).length + [(h, p)].length + (S.drop j).length = (sortR (ks.take (k + 1))).length := by rw [HE.out]; simp; omega
                    have := HO9.out
                    rw [e1, e2] at this
                    exact own_base this (by have := HB3.out.size; have := HBI.out.size; omega)
                  have HNF : Hid (v9 = .slice none 0 0 ∨ 0 < (sortR (ks.take (k + 1))).length) := .inr (by rw [HE.out, List.length_append, List.length_cons]; omega)
                  have HBF : Hid (Below w.heap.size w w9) := HB3.out.trans ((HBI.out.trans (HB9.out.mono HBI.out.size)).mono HB3.out.size)
                  go_roundw
                  case rel => exact ⟨k + 1, by go_num, by omega, HFIN.out, HBF.out, HNF.out⟩
                  case measure => simp [intOf]; omega
    · have HKs : Hid (Keys wr u3 (sortR ks)) := by
        have h1 := HKO.out
        rwa [List.take_of_length_le (by rw [← HN.out]; omega)] at h1
      have HF : Hid (∀ g, u3.ownBlock = some g → w.heap.size ≤ g) := fun g hg => (HRO.out.lt g hg).1
      go_wp2
      go_ret
      exact ⟨_, rfl, HKs.out, HB.out, HF.out⟩
end Go.Proofs.Ytfclhehpbniapaa
