/- The document's Apply: a list with some pages more, and without some. -/
import Derived.Test.YtfclhehpbniapaaRefSort10
import Derived.Test.YtfclhehpbniapaaRefGet11
import Derived.Deep.RegionHeld3
namespace Go.Proofs.Ytfclhehpbniapaa
open Go.RowKit
set_option linter.unusedVariables false
set_option maxRecDepth 20000

/-- The keys that stay. -/
def stayK (l : List Md) (gone : List Ky) : List Ky := (l.map Md.k).filter fun k => !hasK gone k
def keysA (l puts : List Md) (gone : List Ky) : List Ky := stayK l gone ++ puts.map Md.k
def entStep (k : Ky) (e : Int × Int × Nat) (m : Md) : Int × Int × Nat := if m.k = k then (m.s, m.g, m.u) else e
/-- A key's entry: the last one put, else what it was. -/
def entA (l puts : List Md) (k : Ky) : Int × Int × Nat := puts.foldl (entStep k) ((findM l k).getD (0, 0, 0))
def mdA (l puts : List Md) (k : Ky) : Md := ⟨k.1, k.2, (entA l puts k).1, (entA l puts k).2.1, (entA l puts k).2.2⟩
/-- The document's answer. -/
def applyM (l puts : List Md) (gone : List Ky) : List Md := (sortR (keysA l puts gone)).map (mdA l puts)
theorem stay_snoc {l : List Md} {gone : List Ky} {k : Nat} {m : Md} (h : l[k]? = some m) : stayK (l.take (k + 1)) gone = stayK (l.take k) gone ++ if hasK gone m.k then [] else [m.k] := by
  unfold stayK
  rw [take_snocA h, List.map_append, List.filter_append]
  cases hh : hasK gone m.k <;> simp [hh]
theorem stay_len (l : List Md) (gone : List Ky) : (stayK l gone).length ≤ l.length := by
  unfold stayK
  exact Nat.le_trans (List.length_filter_le _ _) (by simp)
theorem stay_fit {l : List Md} {gone : List Ky} (h : ∀ m ∈ l, MdI m) : ∀ k ∈ stayK l gone, KI k := by
  intro k hk
  unfold stayK at hk
  have := (List.mem_filter.1 hk).1
  rw [List.mem_map] at this
  obtain ⟨m, hm, rfl⟩ := this
  exact ⟨(h m hm).1, (h m hm).2.1⟩

/-- An entry in a block of its own. -/
def EntAt (w : World) (b : Nat) (e : Int × Int × Nat) : Prop := w.heap[b]? = some (.cells #[.int .i64 e.1, .int .i64 e.2.1, .int .u32 (e.2.2 : Nat)] 39 (0, 0))
theorem EntAt.cells {w : World} {b : Nat} {e : Int × Int × Nat} (h : EntAt w b e) : w.cell? ⟨b, 0, none⟩ = some (.int .i64 e.1) ∧ w.cell? ⟨b, 1, none⟩ = some (.int .i64 e.2.1) ∧ w.cell? ⟨b, 2, none⟩ = some (.int .u32 (e.2.2 : Nat)) := by
  refine ⟨?_, ?_, ?_⟩ <;> rw [cell_of_row _ _ _ _ _ _ h] <;> rfl
theorem EntAt.below {w w' : World} {b : Nat} {e : Int × Int × Nat} (h : EntAt w b e) (hb : Below w.heap.size w w') : EntAt w' b e := (hb.block b (lt_of_heap h)).trans h
theorem EntAt.frozen {w : World} {b : Nat} {e : Int × Int × Nat} (h : EntAt w b e) (i : Nat) : w.frozen? ⟨b, i, none⟩ = false := by
  simp [World.frozen?, show w.heap[b]? = _ from h]
theorem EntAt.set {w : World} {b : Nat} {e : Int × Int × Nat} (h : EntAt w b e) (s g : Int) (u : Nat) : EntAt (((w.setCell ⟨b, 0, none⟩ (.int .i64 s)).setCell ⟨b, 1, none⟩ (.int .i64 g)).setCell ⟨b, 2, none⟩ (.int .u32 (u : Nat))) b (s, g, u) :=
  (heap_set_row (heap_set_row (heap_set_row h 0 _) 1 _) 2 _).trans rfl

set_option maxRecDepth 20000 in
set_option maxHeartbeats 1000000 in
theorem refApply11_any (w : World) (x y z : Value) (l puts : List Md) (gone : List Ky) (hx : Els encM 5 w x l) (hy : Els encM 5 w y puts) (hz : Keys w z gone) (hl : l.length ≤ 100) (hp : puts.length ≤ 100) (hli : ∀ m ∈ l, MdI m) (hpi : ∀ m ∈ puts, MdI m) :
    Calls Try.prog 14 #[x, y, z] w fun e w' => ∃ u, e = .returned u ∧ Els encM 5 w' u (applyM l puts gone) ∧ Below w.heap.size w w' := by
  obtain ⟨i0, hi, hz0, hz1, hz2⟩ := info_k
  obtain ⟨i1, hi1, hz3, hz4, hz5⟩ := info_parts Try.infoM11
  obtain ⟨a, ca, rfl⟩ := hx.shape
  obtain ⟨b, cb, rfl⟩ := hy.shape
  obtain ⟨L, hn⟩ : ∃ L, L = l.length := ⟨_, rfl⟩
  obtain ⟨M, hm⟩ : ∃ M, M = puts.length := ⟨_, rfl⟩
  rw [← hn] at hx hl ⊢
  rw [← hm] at hy hp ⊢
  have HN : Hid (L = l.length) := hn
  have HM : Hid (M = puts.length) := hm
  have HX : Hid (Els encM 5 w (.slice a L ca) l) := hx
  have HY : Hid (Els encM 5 w (.slice b M cb) puts) := hy
  have HG : Hid (Keys w z gone) := hz
  have HLI : Hid (∀ m ∈ l, MdI m) := hli
  have HPI : Hid (∀ m ∈ puts, MdI m) := hpi
  clear hn hm hx hy hz hli hpi
  go_enter Try.func14, Try.ntmps14
  go_wp2_with fail
  go_loopw [7, 8] (fun v i wr => ∃ k : Nat, i = .int .i64 (k : Nat) ∧ k ≤ L ∧ Hid (wr.ownsRow w.heap.size 36 2 v (stayK (l.take k) gone).length (kcells (stayK (l.take k) gone))) ∧ Hid (Below w.heap.size w wr)) (fun _ i _ => L - (intOf i).toNat)
  case atStart => exact ⟨0, rfl, Nat.zero_le _, World.ownsRow_nil _ _ _ _, Below.refl _ _⟩
  case round =>
    obtain ⟨k, rfl, hk, HO, HB⟩ := hrel
    by_cases hlt : k < L
    · obtain ⟨q, off, rfl, hq, hc⟩ := (HX.out.kept HB.out).md (by omega)
      obtain ⟨mh, mp, ms, mg, mu, hkk⟩ := md_at (xs := l) (j := k) (by rw [← HN.out]; exact hlt)
      obtain ⟨c0, c1, -, -, -⟩ := hc k _ hkk
      have HST : Hid (stayK (l.take (k + 1)) gone = stayK (l.take k) gone ++ if hasK gone (mh, mp) then [] else [(mh, mp)]) := stay_snoc hkk
      have HKI : Hid (KI (mh, mp)) := by have := HLI.out _ (List.mem_of_getElem? hkk); exact ⟨this.1, this.2.1⟩
      have HLN : Hid ((stayK (l.take k) gone).length ≤ k) := by
        have := stay_len (l.take k) gone
        rw [List.length_take] at this
        unfold Hid; omega
      have HHA : Hid (Calls Try.prog 33 #[z, .agg #[.int .i64 mh, .int .i64 mp]] wr fun e w' => e = .returned (.bool (hasK gone (mh, mp))) ∧ Below wr.heap.size wr w') := has_any wr z gone mh mp (HG.out.kept HB.out)
      simp only at c0 c1
      clear hc hkk
      obtain ⟨R, hR⟩ : ∃ R, hasK gone (mh, mp) = R := ⟨_, rfl⟩
      rw [hR] at HST HHA
      clear hR
      go_wp2_with fail
      refine HHA.out.mono ?_
      rintro e w1 ⟨rfl, hb1⟩
      have HO1 : Hid (w1.ownsRow w.heap.size 36 2 u7 (stayK (l.take k) gone).length (kcells (stayK (l.take k) gone))) := own_below11 HO.out hb1
      have HB1 : Hid (Below w.heap.size w w1) := HB.out.trans (hb1.mono HB.out.size)
      have e0 : w1.cell? ⟨q, off + k * 5, none⟩ = some (.int .i64 mh) := (hb1.cell (block_lt_of_cell c0)).trans c0
      have e1 : w1.cell? ⟨q, off + k * 5 + 1, none⟩ = some (.int .i64 mp) := (hb1.cell (block_lt_of_cell c1)).trans c1
      clear hb1 HHA HO HB c0 c1
      generalize stayK (l.take k) gone = S at *
      generalize hS1 : stayK (l.take (k + 1)) gone = S1 at *
      cases R
      · have HS1 : Hid (S1 = S ++ [(mh, mp)]) := HST.out
        have HSZ : Hid (w.heap.size ≤ w1.heap.size) := HB1.out.size
        clear HST
        go_wp2_with (at_builtin; refine wpList_append_keys _ rfl _ _ 34 rfl w.heap.size 36 i0 Try.underlying34 hi hz0 hz1 hz2 _ S.length S rfl (own_below11 HO1.out ((Below.refl _ _).alloc (Nat.le_refl _) _)) _ [(mh, mp)] rfl (Keys.one HKI.out) ?d1 ?d2 ?_)
        case d1 => have := HLN.out; simp only [List.length_singleton]; omega
        case d2 => exact Nat.le_trans HSZ.out (by simp)
        intro v2 w2 hown hg _
        have R1 : Hid (w2.ownsRow w.heap.size 36 2 v2 (stayK (l.take (k + 1)) gone).length (kcells (stayK (l.take (k + 1)) gone))) := by
          unfold Hid
          rw [hS1, HS1.out, List.length_append]
          exact hown
        have R2 : Hid (Below w.heap.size w w2) := HB1.out.trans ((Below.refl w.heap.size _).alloc HSZ.out _ |>.trans (below_grownK (own_below11 HO1.out ((Below.refl _ _).alloc (Nat.le_refl _) _)) hg (Nat.le_trans HSZ.out (by simp))))
        clear hown hg HO1 HB1 e0 e1 hS1 HS1
        go_wp2
        go_roundw
        case rel => exact ⟨k + 1, by go_num, by omega, R1.out, R2.out⟩
        case measure => simp [intOf]; omega
      · have HS1 : Hid (S1 = S) := HST.out.trans (List.append_nil _)
        have R1 : Hid (w1.ownsRow w.heap.size 36 2 u7 (stayK (l.take (k + 1)) gone).length (kcells (stayK (l.take (k + 1)) gone))) := by
          unfold Hid
          rw [hS1, HS1.out]
          exact HO1.out
        clear HST HO1 hS1 HS1
        go_wp2
        go_roundw
        case rel => exact ⟨k + 1, by go_num, by omega, R1.out, HB1.out⟩
        case measure => simp [intOf]; omega
    · obtain rfl : L = k := by omega
      have HT : Hid (stayK (l.take L) gone = stayK l gone) := by unfold Hid; rw [List.take_of_length_le (by rw [← HN.out]; omega)]
      have HSL : Hid ((stayK l gone).length ≤ 100) := Nat.le_trans (stay_len l gone) (by rw [← HN.out]; exact hl)
      have HSI : Hid (∀ q ∈ stayK l gone, KI q) := stay_fit HLI.out
      rw [HT.out] at HO
      generalize hS : stayK l gone = S at *
      have HS : Hid (stayK l gone = S) := hS
      clear hS HT
      go_wp2_with fail
      go_loopw [7, 9] (fun v i wr => ∃ j : Nat, i = .int .i64 (j : Nat) ∧ j ≤ M ∧ Hid (wr.ownsRow w.heap.size 36 2 v (S.length + j) (kcells (S ++ (puts.take j).map Md.k))) ∧ Hid (Below w.heap.size w wr)) (fun _ i _ => M - (intOf i).toNat)
      case atStart => exact ⟨0, rfl, Nat.zero_le _, by unfold Hid; simpa using HO.out, HB.out⟩
      case round =>
        obtain ⟨j, rfl, hj, HO2, HB2⟩ := hrel
        by_cases hjt : j < M
        · obtain ⟨q, off, rfl, hq, hc⟩ := (HY.out.kept HB2.out).md (by omega)
          obtain ⟨mh, mp, ms, mg, mu, hkk⟩ := md_at (xs := puts) (j := j) (by rw [← HM.out]; exact hjt)
          obtain ⟨c0, c1, -, -, -⟩ := hc j _ hkk
          have HST : Hid ((puts.take (j + 1)).map Md.k = (puts.take j).map Md.k ++ [(mh, mp)]) := by unfold Hid; rw [take_snocA hkk, List.map_append]; rfl
          have HKI : Hid (KI (mh, mp)) := by have := HPI.out _ (List.mem_of_getElem? hkk); exact ⟨this.1, this.2.1⟩
          have HSZ : Hid (w.heap.size ≤ wr.heap.size) := HB2.out.size
          have HSL2 : Hid (S.length ≤ 100) := HSL.out
          simp only at c0 c1
          clear hc hkk
          go_wp2_with (at_builtin; refine wpList_append_keys _ rfl _ _ 34 rfl w.heap.size 36 i0 Try.underlying34 hi hz0 hz1 hz2 _ (S.length + j) (S ++ (puts.take j).map Md.k) rfl (own_below11 HO2.out ((Below.refl _ _).alloc (Nat.le_refl _) _)) _ [(mh, mp)] rfl (Keys.one HKI.out) ?d1 ?d2 ?_)
          case d1 => have := HSL2.out; simp only [List.length_singleton]; omega
          case d2 => exact Nat.le_trans HSZ.out (by simp)
          intro v2 w2 hown hg _
          have R1 : Hid (w2.ownsRow w.heap.size 36 2 v2 (S.length + (j + 1)) (kcells (S ++ (puts.take (j + 1)).map Md.k))) := by
            unfold Hid
            rw [HST.out, ← Nat.add_assoc, List.map_take]
            exact hown
          have R2 : Hid (Below w.heap.size w w2) := HB2.out.trans ((Below.refl w.heap.size _).alloc HSZ.out _ |>.trans (below_grownK (own_below11 HO2.out ((Below.refl _ _).alloc (Nat.le_refl _) _)) hg (Nat.le_trans HSZ.out (by simp))))
          clear hown hg HO2 HB2 c0 c1
          go_wp2
          go_roundw
          case rel => exact ⟨j + 1, by go_num, by omega, R1.out, R2.out⟩
          case measure => simp [intOf]; omega
        · obtain rfl : M = j := by omega
          have HKK : Hid (Keys wr u7 (keysA l puts gone)) := by
            have h1 : S ++ (puts.take M).map Md.k = keysA l puts gone := by unfold keysA; rw [HS.out, List.take_of_length_le (by rw [← HM.out]; omega)]
            have h2 := HO2.out
            rw [h1] at h2
            refine Keys.ofOwn h2 ?_
            intro q hq
            rw [← h1] at hq
            rcases List.mem_append.1 hq with hq | hq
            · exact HSI.out q hq
            · rw [List.mem_map] at hq
              obtain ⟨m, hm, rfl⟩ := hq
              have := HPI.out m (List.mem_of_mem_take hm)
              exact ⟨this.1, this.2.1⟩
          have HKL : Hid ((keysA l puts gone).length ≤ 200) := by
            unfold Hid keysA
            rw [List.length_append, List.length_map, HS.out, ← HM.out]
            have := HSL.out
            omega
          have HSO : Hid (Calls Try.prog 34 #[u7] wr fun e w' => ∃ u, e = .returned u ∧ Keys w' u (sortR (keysA l puts gone)) ∧ Below wr.heap.size wr w' ∧ ∀ g, u.ownBlock = some g → wr.heap.size ≤ g) := refSort_any wr u7 _ HKK.out (by have := HKL.out; omega)
          have HTL : Hid ((sortR (keysA l puts gone)).length ≤ 200) := Nat.le_trans (sortR_len _) HKL.out
          have HAP : Hid (applyM l puts gone = (sortR (keysA l puts gone)).map (mdA l puts)) := rfl
          clear HKL HKK HO2
          generalize sortR (keysA l puts gone) = T at *
          go_wp2_with fail
          refine HSO.out.mono ?_
          rintro e w1 ⟨u, rfl, hK, hB, -⟩
          obtain ⟨at', ct, rfl⟩ := hK.shape
          obtain ⟨n, hn⟩ : ∃ n, n = T.length := ⟨_, rfl⟩
          rw [← hn] at hK HTL ⊢
          have hn1 : n ≤ 200 := HTL.out
          have HNT : Hid (n = T.length) := hn
          have HT : Hid (Keys w1 (.slice at' n ct) T) := hK
          have HB1 : Hid (Below w.heap.size w w1) := HB2.out.trans (hB.mono HB2.out.size)
          clear hn hK hB HSO HB2 HSI HSL HS HB HO HG HTL
          go_wp2_with fail
          go_loopw [10, 11] (fun v i wr => ∃ k : Nat, i = .int .i64 (k : Nat) ∧ k ≤ n ∧ Hid (wr.ownsRow w1.heap.size 41 5 v k (ecells encM ((T.take k).map (mdA l puts)))) ∧ Hid (Below w1.heap.size w1 wr)) (fun _ i _ => n - (intOf i).toNat)
          case atStart => exact ⟨0, rfl, Nat.zero_le _, World.ownsRow_nil _ _ _ _, Below.refl _ _⟩
          case round =>
            obtain ⟨k, rfl, hk, HO3, HB3⟩ := hrel
            by_cases hkt : k < n
            · obtain ⟨q, off, rfl, hq, hc⟩ := HT.out.addr (by omega)
              obtain ⟨h, p, hkk⟩ := key_at (ks := T) (j := k) (by rw [← HNT.out]; exact hkt)
              obtain ⟨hc0, hc1⟩ := hc k _ hkk
              simp only at hc0 hc1
              have HTC : Hid (∀ W, Below w1.heap.size w1 W → W.cell? ⟨q, off + k * 2, none⟩ = some (.int .i64 h) ∧ W.cell? ⟨q, off + k * 2 + 1, none⟩ = some (.int .i64 p)) := fun W hW => ⟨(hW.cell (p := ⟨q, off + k * 2, none⟩) hq).trans hc0, (hW.cell (p := ⟨q, off + k * 2 + 1, none⟩) hq).trans hc1⟩
              have HMT : Hid ((T.take (k + 1)).map (mdA l puts) = (T.take k).map (mdA l puts) ++ [mdA l puts (h, p)]) := by unfold Hid; rw [take_snocA hkk, List.map_append]; rfl
              have HBR : Hid (Below w.heap.size w wr) := HB1.out.trans (HB3.out.mono HB1.out.size)
              have HFI : Hid (Calls Try.prog 16 #[.slice a L ca, .agg #[.int .i64 h, .int .i64 p]] wr fun e w' => e = .returned (.tuple #[entV (findM l (h, p)), .bool (findM l (h, p)).isSome]) ∧ Below wr.heap.size wr w') := refFind11_any wr _ l h p (by have := HX.out.kept HBR.out; exact this)
              obtain ⟨s0, g0, u0, he0⟩ : ∃ s0 g0 u0, (findM l (h, p)).getD (0, 0, 0) = (s0, g0, u0) := ⟨_, _, _, rfl⟩
              have HEV : Hid (entV (findM l (h, p)) = .agg #[.int .i64 s0, .int .i64 g0, .int .u32 (u0 : Nat)]) := by unfold Hid entV; rw [he0]
              have HEA : Hid (entA l puts (h, p) = puts.foldl (entStep (h, p)) (s0, g0, u0)) := by unfold Hid entA; rw [he0]
              rw [HEV.out] at HFI
              generalize (findM l (h, p)).isSome = ok at HFI
              obtain ⟨t0, t1⟩ := HTC.out wr HB3.out
              clear hc hkk hc0 hc1 he0 HEV
              go_wp2_with fail
              refine HFI.out.mono ?_
              rintro e w2 ⟨rfl, hb2⟩
              have HB4 : Hid (Below w1.heap.size w1 w2) := HB3.out.trans (hb2.mono HB3.out.size)
              have HO4 : Hid (w2.ownsRow w1.heap.size 41 5 u10 k (ecells encM ((T.take k).map (mdA l puts)))) := own_below11 HO3.out hb2
              clear hb2 HFI t0 t1 HBR HB3 HO3
              go_wp2_with fail
              obtain ⟨V, hV⟩ : ∃ V, V = w2.alloc (.cells #[.int .i64 s0, .int .i64 g0, .int .u32 (u0 : Nat)] 39) := ⟨_, rfl⟩
              obtain ⟨Y, hYY⟩ : ∃ Y, Y = w2.heap.size := ⟨_, rfl⟩
              have E0 : Hid (EntAt V Y (s0, g0, u0)) := by rw [hV, hYY]; exact heap_alloc_new w2 _
              have HBV : Hid (Below Y w2 V) := by rw [hV, hYY]; exact (Below.refl _ _).alloc (Nat.le_refl _) _
              have HY1 : Hid (Y = w2.heap.size) := hYY
              rw [← hV]
              try rw [← hYY]
              clear hV hYY
              go_loopw [14] (fun i wv => ∃ j : Nat, i = .int .i64 (j : Nat) ∧ j ≤ M ∧ Hid (EntAt wv Y ((puts.take j).foldl (entStep (h, p)) (s0, g0, u0))) ∧ Hid (Below Y w2 wv)) (fun i _ => M - (intOf i).toNat)
              case atStart => exact ⟨0, rfl, Nat.zero_le _, E0.out, HBV.out⟩
              case round =>
                obtain ⟨j, rfl, hj, HE, HB5⟩ := hrel
                have HYL : Hid (w1.heap.size ≤ Y) := by rw [HY1.out]; exact HB4.out.size
                have HB6 : Hid (Below w1.heap.size w1 wr) := HB4.out.trans (HB5.out.mono HYL.out)
                obtain ⟨t0, t1⟩ := HTC.out wr HB6.out
                have hk1 : (k : Int) < (n : Int) := by omega
                have hk0 : (0 : Int) ≤ (k : Int) := by omega
                by_cases hjt : j < M
                · obtain ⟨r, rof, rfl, hr, hc⟩ := (HY.out.kept (HB1.out.trans (HB6.out.mono HB1.out.size))).md (by omega)
                  obtain ⟨mh, mp, ms, mg, mu, hkk⟩ := md_at (xs := puts) (j := j) (by rw [← HM.out]; exact hjt)
                  obtain ⟨c0, c1, c2, c3, c4⟩ := hc j _ hkk
                  have HFS : Hid ((puts.take (j + 1)).foldl (entStep (h, p)) (s0, g0, u0) = entStep (h, p) ((puts.take j).foldl (entStep (h, p)) (s0, g0, u0)) ⟨mh, mp, ms, mg, mu⟩) := by unfold Hid; rw [take_snocA hkk, List.foldl_append]; rfl
                  simp only at c0 c1 c2 c3 c4
                  have hj1 : (j : Int) < (M : Int) := by omega
                  have hj0 : (0 : Int) ≤ (j : Int) := by omega
                  clear hc hkk HB6
                  generalize (puts.take j).foldl (entStep (h, p)) (s0, g0, u0) = e5 at *
                  obtain ⟨s5, g5, u5⟩ := e5
                  obtain ⟨y0, y1, y2⟩ := HE.out.cells
                  have f0 := HE.out.frozen 0
                  have f1 := HE.out.frozen 1
                  have f2 := HE.out.frozen 2
                  simp only at y0 y1 y2
                  by_cases q1 : mh = h
                  · by_cases q2 : mp = p
                    · have HE2 : Hid (∀ m, EntAt ((((wr.drewN m).setCell ⟨Y, 0, none⟩ (.int .i64 ms)).setCell ⟨Y, 1, none⟩ (.int .i64 mg)).setCell ⟨Y, 2, none⟩ (.int .u32 (mu : Nat))) Y ((puts.take (j + 1)).foldl (entStep (h, p)) (s0, g0, u0))) := fun m => by
                        rw [HFS.out, entStep, if_pos (by rw [← q1, ← q2]; rfl)]
                        exact EntAt.set (w := wr.drewN m) HE.out ms mg mu
                      have HB7 : Hid (∀ m, Below Y w2 ((((wr.drewN m).setCell ⟨Y, 0, none⟩ (.int .i64 ms)).setCell ⟨Y, 1, none⟩ (.int .i64 mg)).setCell ⟨Y, 2, none⟩ (.int .u32 (mu : Nat)))) := fun m => (((HB5.out.trans ((below_dr wr m).mono (by rw [HY1.out]; exact HB5.out.size))).setCell (p := ⟨Y, 0, none⟩) (Nat.le_refl _) _).setCell (p := ⟨Y, 1, none⟩) (Nat.le_refl _) _).setCell (p := ⟨Y, 2, none⟩) (Nat.le_refl _) _
                      clear HE HFS HB5
                      subst q1 q2
                      go_wp2_with fail
                      go_quiet (fail)
                      go_wp2
                      go_roundw
                      case rel => exact ⟨j + 1, by go_num, by omega, HE2.out _, HB7.out _⟩
                      case measure => simp [intOf]; omega
                    · have HE2 : Hid (∀ m, EntAt (wr.drewN m) Y ((puts.take (j + 1)).foldl (entStep (h, p)) (s0, g0, u0))) := fun m => by
                        rw [HFS.out, entStep, if_neg (by intro e; exact q2 (Prod.mk.inj e).2)]
                        exact HE.out
                      have HB7 : Hid (∀ m, Below Y w2 (wr.drewN m)) := fun m => HB5.out.trans ((below_dr wr m).mono (by rw [HY1.out]; exact HB5.out.size))
                      have hne : (mp == p) = false := by simpa using q2
                      clear HE HFS HB5
                      subst q1
                      go_wp2_with fail
                      go_quiet (fail)
                      go_wp2
                      go_roundw
                      case rel => exact ⟨j + 1, by go_num, by omega, HE2.out _, HB7.out _⟩
                      case measure => simp [intOf]; omega
                  · have HE2 : Hid (∀ m, EntAt (wr.drewN m) Y ((puts.take (j + 1)).foldl (entStep (h, p)) (s0, g0, u0))) := fun m => by
                      rw [HFS.out, entStep, if_neg (by intro e; exact q1 (Prod.mk.inj e).1)]
                      exact HE.out
                    have HB7 : Hid (∀ m, Below Y w2 (wr.drewN m)) := fun m => HB5.out.trans ((below_dr wr m).mono (by rw [HY1.out]; exact HB5.out.size))
                    have hne : (mh == h) = false := by simpa using q1
                    clear HE HFS HB5
                    go_wp2_with fail
                    go_quiet (fail)
                    go_wp2
                    go_roundw
                    case rel => exact ⟨j + 1, by go_num, by omega, HE2.out _, HB7.out _⟩
                    case measure => simp [intOf]; omega
                · obtain rfl : M = j := by omega
                  have HE2 : Hid (EntAt wr Y (entA l puts (h, p))) := by
                    unfold Hid
                    rw [HEA.out]
                    have h2 := HE.out
                    rwa [List.take_of_length_le (by rw [← HM.out]; omega)] at h2
                  have HMD : Hid (mdA l puts (h, p) = ⟨h, p, (entA l puts (h, p)).1, (entA l puts (h, p)).2.1, (entA l puts (h, p)).2.2⟩) := rfl
                  rw [HMD.out] at HMT
                  clear HE HMD
                  generalize entA l puts (h, p) = e5 at *
                  obtain ⟨s5, g5, u5⟩ := e5
                  simp only at HMT
                  have HOR : Hid (wr.ownsRow w1.heap.size 41 5 u10 k (ecells encM ((T.take k).map (mdA l puts)))) := own_below11 HO4.out (by have := HB5.out; rwa [HY1.out] at this)
                  have HSX : Hid (∀ W, Below wr.heap.size wr W → W.cell? ⟨q, off + k * 2, none⟩ = some (.int .i64 h) ∧ W.cell? ⟨q, off + k * 2 + 1, none⟩ = some (.int .i64 p) ∧ W.cell? ⟨Y, 0, none⟩ = some (.int .i64 s5) ∧ W.cell? ⟨Y, 1, none⟩ = some (.int .i64 g5) ∧ W.cell? ⟨Y, 2, none⟩ = some (.int .u32 (u5 : Nat))) := fun W hW => by
                    obtain ⟨x0, x1⟩ := HTC.out W (HB6.out.trans (hW.mono HB6.out.size))
                    obtain ⟨x2, x3, x4⟩ := (HE2.out.below hW).cells
                    exact ⟨x0, x1, x2, x3, x4⟩
                  have HQY : Hid (∀ W9 o, (wr.drew.alloc o).grownBy W9 u10.ownBlock → W9.cell? ⟨q, off + k * 2, none⟩ = some (.int .i64 h) ∧ W9.cell? ⟨q, off + k * 2 + 1, none⟩ = some (.int .i64 p) ∧ W9.cell? ⟨Y, 0, none⟩ = some (.int .i64 s5) ∧ W9.cell? ⟨Y, 1, none⟩ = some (.int .i64 g5) ∧ W9.cell? ⟨Y, 2, none⟩ = some (.int .u32 (u5 : Nat))) := fun W9 o hg => by
                    obtain ⟨x0, x1, x2, x3, x4⟩ := HSX.out _ ((Below.refl _ _).drew.alloc (Nat.le_refl _) o)
                    have nq : u10.ownBlock ≠ some q := fun e => by have := (HO4.out.lt q e).1; omega
                    have nY : u10.ownBlock ≠ some Y := fun e => by have := (HO4.out.lt Y e).2; have := HY1.out; omega
                    have bq := hg.block q (block_lt_of_cell x0) (fun e => nq e.symm)
                    have bY := hg.block Y (block_lt_of_cell x2) (fun e => nY e.symm)
                    exact ⟨(World.cell?_of_block (a := ⟨q, off + k * 2, none⟩) bq).trans x0, (World.cell?_of_block (a := ⟨q, off + k * 2 + 1, none⟩) bq).trans x1, (World.cell?_of_block (a := ⟨Y, 0, none⟩) bY).trans x2, (World.cell?_of_block (a := ⟨Y, 1, none⟩) bY).trans x3, (World.cell?_of_block (a := ⟨Y, 2, none⟩) bY).trans x4⟩
                  generalize hQ : (T.take k).map (mdA l puts) = Qs at *
                  have HQ : Hid ((T.take k).map (mdA l puts) = Qs) := hQ
                  have HSZ : Hid (w1.heap.size ≤ wr.heap.size) := HB6.out.size
                  clear hQ t0 t1 HB5
                  go_wp2_with fail
                  go_region_held3 (fun w' => w'.cell? ⟨q, off + k * 2, none⟩ = some (.int .i64 h) ∧ w'.cell? ⟨q, off + k * 2 + 1, none⟩ = some (.int .i64 p) ∧ w'.cell? ⟨Y, 0, none⟩ = some (.int .i64 s5) ∧ w'.cell? ⟨Y, 1, none⟩ = some (.int .i64 g5) ∧ w'.cell? ⟨Y, 2, none⟩ = some (.int .u32 (u5 : Nat))) (first | exact HSX.out _ (Below.refl _ _).drew | exact HSX.out _ ((Below.refl _ _).drew.alloc (Nat.le_refl _) _) | exact HS9) (first
                    | (refine step_append_els encM_ok (by rfl) _ _ 22 (by rfl) w1.heap.size 41 i1 _ 40 Try.underlying22 hi1 hz3 (by rfl) hz4 hz5 (by decide) _ k Qs (by rfl) (own_below11 HOR.out ((Below.refl _ _).drew.alloc (Nat.le_refl _) _)) _ [⟨h, p, s5, g5, u5⟩] (by rfl) (els_one11 (by simp)) (by simp only [List.length_cons, List.length_nil]; omega) (Nat.le_trans HSZ.out (by simp)) ?_
                       intro v9 w9 hown9 hg9
                       have HS9 := HQY.out _ _ hg9
                       have HB9 : Hid (Below w1.heap.size w1 w9) := HB6.out.trans (((Below.refl _ _).drew.alloc HSZ.out _).trans (below_grownK (own_below11 HOR.out ((Below.refl _ _).drew.alloc (Nat.le_refl _) _)) hg9 (Nat.le_trans HSZ.out (by simp))))))
                  all_goals
                    have R1 : Hid (w9.ownsRow w1.heap.size 41 5 v9 (k + 1) (ecells encM ((T.take (k + 1)).map (mdA l puts)))) := by
                      unfold Hid
                      rw [HMT.out]
                      exact hown9
                    clear hown9 hg9 HS9
                    go_wp2
                    go_roundw
                    case rel => exact ⟨k + 1, by go_num, by omega, R1.out, HB9.out⟩
                    case measure => simp [intOf]; omega
            · obtain rfl : k = n := by omega
              have HE : Hid (Els encM 5 wr u10 (applyM l puts gone)) := by
                have h2 := HO3.out
                rw [List.take_of_length_le (by rw [← HNT.out]; omega), ← HAP.out] at h2
                exact Els.ofOwn encM_ok h2
              go_wp2
              go_ret
              exact ⟨_, rfl, HE.out, HB1.out.trans (HB3.out.mono HB1.out.size)⟩
end Go.Proofs.Ytfclhehpbniapaa
