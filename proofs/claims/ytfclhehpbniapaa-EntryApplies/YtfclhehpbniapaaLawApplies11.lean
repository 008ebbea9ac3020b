/- The law 'EntryApplies'. -/
import Derived.Test.YtfclhehpbniapaaLawLists11
import Derived.Test.YtfclhehpbniapaaWalkApply11
namespace Go.Proofs.Ytfclhehpbniapaa
open Go.RowKit
set_option linter.unusedVariables false
set_option maxRecDepth 20000

/-! ### What the law asks, in plain words -/
theorem nodup_snoc {l : List Md} {i : Nat} {m : Md} (hn : ((l.take i).map Md.k).Nodup) (hi : l[i]? = some m) (h : ∀ (j : Nat) y, j < i → l[j]? = some y → y.k ≠ m.k) : ((l.take (i + 1)).map Md.k).Nodup := by
  rw [take_snocA hi, List.map_append, List.nodup_append]
  refine ⟨hn, by simp, fun a ha b hb e => ?_⟩
  simp only [List.map_cons, List.map_nil, List.mem_singleton] at hb
  obtain ⟨y, hy, rfl⟩ := List.mem_map.1 ha
  obtain ⟨j, hj⟩ := List.getElem?_of_mem hy
  have hji : j < i := by have := (List.getElem?_eq_some_iff.1 hj).1; rw [List.length_take] at this; omega
  rw [List.getElem?_take_of_lt hji] at hj
  exact h j y hji hj (e.trans hb)
theorem find_some {x : Ky} : ∀ {l : List Md}, (findM l x).isSome = decide (x ∈ l.map Md.k)
  | [] => rfl
  | m :: r => by
    unfold findM
    by_cases e : m.k = x
    · rw [if_pos e, e.symm]
      simp
    · rw [if_neg e, find_some]
      have : ¬ x = m.k := fun e' => e e'.symm
      simp [this]
def hasP (ps : List Md) (g : Ky) : Bool := decide (g ∈ ps.map Md.k)
theorem apply_keys (l puts : List Md) (gone : List Ky) : (applyM l puts gone).map Md.k = sortR (keysA l puts gone) := by
  unfold applyM
  rw [List.map_map]
  exact List.map_id' _
theorem apply_found {l puts : List Md} {gone : List Ky} {g : Ky} (hg : g ∈ gone) : (findM (applyM l puts gone) g).isSome = hasP puts g := by
  rw [find_some, apply_keys, hasP]
  congr 1
  rw [sortR_mem, keysA, List.mem_append, stayK, List.mem_filter]
  simp [hasK, hg]
theorem hasP_snoc {ps : List Md} {k : Nat} {m : Md} {g : Ky} (h : ps[k]? = some m) : hasP (ps.take (k + 1)) g = (hasP (ps.take k) g || decide (m.k = g)) := by
  unfold hasP
  have h2 : (g ∈ (ps.take k).map Md.k ++ [m.k]) ↔ (g ∈ (ps.take k).map Md.k ∨ m.k = g) := by rw [List.mem_append, List.mem_singleton, eq_comm (a := g)]
  rw [mapk_snoc h, Bool.eq_iff_iff, decide_eq_true_iff, h2, Bool.or_eq_true, decide_eq_true_iff, decide_eq_true_iff]
theorem apply_less {l puts : List Md} {gone : List Ky} {i : Nat} {a b : Md} (ha : (applyM l puts gone)[i]? = some a) (hb : (applyM l puts gone)[i + 1]? = some b) : ltK a.k b.k = true := by
  have hp := sortR_rises (keysA l puts gone)
  rw [← apply_keys] at hp
  have hi := (List.getElem?_eq_some_iff.1 hb).1
  have h1 : ((applyM l puts gone).map Md.k)[i]'(by rw [List.length_map]; omega) = a.k := by
    rw [List.getElem_map]
    congr 1
    exact (List.getElem?_eq_some_iff.1 ha).2
  have h2 : ((applyM l puts gone).map Md.k)[i + 1]'(by rw [List.length_map]; omega) = b.k := by
    rw [List.getElem_map]
    congr 1
    exact (List.getElem?_eq_some_iff.1 hb).2
  have := List.pairwise_iff_getElem.1 hp i (i + 1) (by rw [List.length_map]; omega) (by rw [List.length_map]; omega) (Nat.lt_succ_self _)
  rw [h1, h2] at this
  exact decide_eq_true this
theorem ent_cells {w w' : World} {a b c : Value} {T : TypeId} (hb : Below (w.alloc (.cells #[a, b, c] T)).heap.size (w.alloc (.cells #[a, b, c] T)) w') : w'.cell? ⟨w.heap.size, 0, none⟩ = some a ∧ w'.cell? ⟨w.heap.size, 1, none⟩ = some b ∧ w'.cell? ⟨w.heap.size, 2, none⟩ = some c := by
  obtain ⟨h0, h1, h2⟩ := new_three w a b c T
  have hl : w.heap.size < (w.alloc (.cells #[a, b, c] T)).heap.size := by simp
  exact ⟨(hb.cell (p := ⟨w.heap.size, 0, none⟩) hl).trans h0, (hb.cell (p := ⟨w.heap.size, 1, none⟩) hl).trans h1, (hb.cell (p := ⟨w.heap.size, 2, none⟩) hl).trans h2⟩

set_option maxHeartbeats 8000000 in
theorem applies_main (a0 : Option Addr) (len0 cap0 : Nat) (l : List Md) (a1 : Option Addr) (len1 cap1 : Nat) (puts : List Md) (a2 : Option Addr) (len2 cap2 : Nat) (gone : List Ky) (w : World) (f0 : Els encM 5 w (.slice a0 len0 cap0) l) (g0 : ∀ y ∈ l, MdI y) (f1 : Els encM 5 w (.slice a1 len1 cap1) puts) (g1 : ∀ y ∈ puts, MdI y) (f2 : Keys w (.slice a2 len2 cap2) gone) (h0 : len0 ≤ 20) (h1 : len1 ≤ 20) (h2 : len2 ≤ 20) :
    Calls Try.prog 4 #[.slice a0 len0 cap0, .slice a1 len1 cap1, .slice a2 len2 cap2] w fun e w' => e = .returned (.bool true) ∧ Below w.heap.size w w' := by
  obtain ⟨i1, hi1, hz3, hz4, hz5⟩ := info_parts Try.infoM11
  have HE0 : Hid (Els encM 5 w (.slice a0 len0 cap0) l) := f0
  have HE1 : Hid (Els encM 5 w (.slice a1 len1 cap1) puts) := f1
  have HE2 : Hid (Keys w (.slice a2 len2 cap2) gone) := f2
  have HI0 : Hid (∀ y ∈ l, MdI y) := g0
  have HI1 : Hid (∀ y ∈ puts, MdI y) := g1
  have HL0 : Hid (l.length = len0) := f0.lenEq
  have HL1 : Hid (puts.length = len1) := f1.lenEq
  have HL2 : Hid (gone.length = len2) := f2.lenEq
  have hi0' : ¬ (20 : Int) < len0 := by omega
  have hi1' : ¬ (20 : Int) < len1 := by omega
  have hi2' : ¬ (20 : Int) < len2 := by omega
  clear f0 f1 f2 g0 g1
  go_enter Try.func4, Try.ntmps4
  go_wp2_with fail
  refine (awake11 _).mono ?_
  rintro e w1 ⟨rfl, hb1⟩
  have HB1 : Hid (Below w.heap.size w w1) := hb1
  have HX1 : Hid (Els encM 5 w1 (.slice a0 len0 cap0) l) := HE0.out.kept hb1
  clear hb1
  go_wp2_with fail
  go_loopw [7] (fun i wr => ∃ k : Nat, i = .int .i64 (k : Nat) ∧ k ≤ len0 ∧ Hid (((l.take k).map Md.k).Nodup) ∧ ∃ m, wr = w1.drewN m) (fun i _ => len0 - (intOf i).toNat)
  case atStart => exact ⟨0, rfl, Nat.zero_le _, by simp [Hid], 0, rfl⟩
  case round =>
    obtain ⟨k, rfl, hk, HND, m, rfl⟩ := hrel
    by_cases hlt : k < len0
    · obtain ⟨b, off, rfl, hb, hc⟩ := HX1.out.md (by omega)
      obtain ⟨mh, mp, ms, mg, mu, hkk⟩ := md_at (xs := l) (j := k) (by rw [HL0.out]; exact hlt)
      obtain ⟨c0, c1, c2, c3, c4⟩ := hc k _ hkk
      have HCL : Hid (∀ j y, l[j]? = some y → w1.cell? ⟨b, off + j * 5, none⟩ = some (.int .i64 y.h) ∧ w1.cell? ⟨b, off + j * 5 + 1, none⟩ = some (.int .i64 y.p)) := fun j y hj => ⟨(hc j y hj).1, (hc j y hj).2.1⟩
      have HN2 : Hid ((∀ (j : Nat) y, j < k → l[j]? = some y → y.k ≠ (mh, mp)) → ((l.take (k + 1)).map Md.k).Nodup) := fun h => nodup_snoc HND.out hkk h
      simp only at c0 c1
      clear hc hb hkk c2 c3 c4
      go_wp2_with fail
      go_loopw [8] (fun i wr => ∃ j : Nat, i = .int .i64 (j : Nat) ∧ j ≤ k ∧ Hid (∀ (q : Nat) y, q < j → l[q]? = some y → y.k ≠ (mh, mp)) ∧ ∃ m, wr = w1.drewN m) (fun i _ => k - (intOf i).toNat)
      case atStart => exact ⟨0, rfl, Nat.zero_le _, fun q y hq => absurd hq (Nat.not_lt_zero _), _, rfl⟩
      case round =>
        obtain ⟨j, rfl, hj, HD, m2, rfl⟩ := hrel
        by_cases hlt2 : j < k
        · obtain ⟨qh, qp, qs, qg, qu, hqq⟩ := md_at (xs := l) (j := j) (by rw [HL0.out]; omega)
          obtain ⟨d0, d1⟩ := HCL.out j _ hqq
          have HD2 : Hid ((qh, qp) ≠ (mh, mp) → ∀ (q : Nat) y, q < j + 1 → l[q]? = some y → y.k ≠ (mh, mp)) := fun hne q y hq hy => by
            by_cases e : q = j
            · subst e
              rw [hqq, Option.some.injEq] at hy
              subst hy
              exact hne
            · exact HD.out q y (by omega) hy
          simp only at d0 d1
          clear hqq
          by_cases q1 : qh = mh
          · by_cases q2 : qp = mp
            · subst q1 q2
              clear HD2 HD HN2 HCL
              go_wp2_with fail
              go_quiet (fail)
              go_wp2
              go_ret
              rw [World.drewN_drewN]
              exact ⟨rfl, HB1.out.trans ((below_dr w1 _).mono HB1.out.size)⟩
            · have HD3 : Hid (∀ (q : Nat) y, q < j + 1 → l[q]? = some y → y.k ≠ (mh, mp)) := HD2.out (fun e => q2 (by cases e; rfl))
              have hne : (qp == mp) = false := by simpa using q2
              clear HD2 HD
              subst q1
              go_wp2_with fail
              go_quiet (fail)
              go_wp2_with fail
              go_roundw
              case rel => exact ⟨j + 1, by go_num, by omega, HD3.out, _, rfl⟩
              case measure => simp [intOf]; omega
          · have HD3 : Hid (∀ (q : Nat) y, q < j + 1 → l[q]? = some y → y.k ≠ (mh, mp)) := HD2.out (fun e => q1 (by cases e; rfl))
            have hne : (qh == mh) = false := by simpa using q1
            clear HD2 HD
            go_wp2_with fail
            go_quiet (fail)
            go_wp2_with fail
            go_roundw
            case rel => exact ⟨j + 1, by go_num, by omega, HD3.out, _, rfl⟩
            case measure => simp [intOf]; omega
        · have HN3 : Hid (((l.take (k + 1)).map Md.k).Nodup) := HN2.out (fun q y hq hy => HD.out q y (by omega) hy)
          go_wp2_with fail
          go_roundw
          case rel => exact ⟨k + 1, by go_num, by omega, HN3.out, _, rfl⟩
          case measure => simp [intOf]; omega
    · have HNL : Hid ((l.map Md.k).Nodup) := by
        have := HND.out
        rwa [List.take_of_length_le (by rw [HL0.out]; omega)] at this
      have HBm : Hid (Below w.heap.size w (w1.drewN m)) := HB1.out.trans ((below_dr w1 m).mono HB1.out.size)
      generalize w1.drewN m = w2 at *
      clear HX1 HB1 HND
      have HX2 : Hid (Els encM 5 w2 (.slice a0 len0 cap0) l) := HE0.out.kept HBm.out
      go_wp2_with (at_builtin; refine wpList_append_els encM_ok _ rfl _ _ 22 rfl w2.heap.size 41 i1 _ 40 Try.underlying22 hi1 hz3 (by rfl) hz4 hz5 (by decide) (.slice (some ⟨w2.heap.size, 0, none⟩) 0 0) 0 [] rfl (World.ownsRow_made _ #[] 0 (Nat.le_refl _) (by decide) (Nat.zero_mul _).symm) (.slice a0 len0 cap0) l rfl (HX2.out.alloc _) ?d1 ?d2 ?_)
      case d1 => rw [HL0.out]; omega
      case d2 => simp
      intro v3 w3 hown3 hg3 _
      have HB3 : Hid (Below w2.heap.size w2 w3) := ((Below.refl _ _).alloc (Nat.le_refl _) _).trans (below_grownK (k := 5) (World.ownsRow_made _ #[] 0 (Nat.le_refl _) (by decide) (Nat.zero_mul _).symm) hg3 (by simp))
      have HIN3 : Hid (Els encM 5 w3 v3 l) := Els.ofOwn encM_ok hown3
      have HB3w : Hid (Below w.heap.size w w3) := HBm.out.trans (HB3.out.mono HBm.out.size)
      clear hown3 hg3 HB3 HX2 HBm
      go_wp2_with fail
      refine (apply11_any w3 _ _ _ l puts gone HIN3.out (HE1.out.kept HB3w.out) (HE2.out.kept HB3w.out) (by rw [HL0.out]; omega) (by rw [HL1.out]; omega) (by rw [HL2.out]; omega) HI0.out HI1.out HNL.out).mono ?_
      rintro e w4 ⟨x4, rfl, hx4, hb4⟩
      have HB4 : Hid (Below w3.heap.size w3 w4) := hb4
      have HX4 : Hid (Els encM 5 w4 x4 (applyM l puts gone)) := hx4
      have HB4w : Hid (Below w.heap.size w w4) := HB3w.out.trans (hb4.mono HB3w.out.size)
      clear hb4 hx4 HNL
      go_wp2_with fail
      refine (refApply11_any w4 _ _ _ l puts gone (HE0.out.kept HB4w.out) (HE1.out.kept HB4w.out) (HE2.out.kept HB4w.out) (by rw [HL0.out]; omega) (by rw [HL1.out]; omega) HI0.out HI1.out).mono ?_
      rintro e w5 ⟨x5, rfl, hx5, hb5⟩
      have HB5 : Hid (Below w3.heap.size w3 w5) := HB4.out.trans (hb5.mono HB4.out.size)
      have HX5 : Hid (Els encM 5 w5 x4 (applyM l puts gone)) := HX4.out.kept hb5
      have HY5 : Hid (Els encM 5 w5 x5 (applyM l puts gone)) := hx5
      have HB5w : Hid (Below w.heap.size w w5) := HB4w.out.trans (hb5.mono HB4w.out.size)
      clear hb5 hx5 HX4 HB4 HB4w
      go_wp2_with fail
      refine (same11_b w5 _ _ _ HX5.out HY5.out).mono ?_
      rintro e w6 ⟨rfl, hb6⟩
      have HB6 : Hid (Below w3.heap.size w3 w6) := HB5.out.trans (hb6.mono HB5.out.size)
      have HX6 : Hid (Els encM 5 w6 x4 (applyM l puts gone)) := HX5.out.kept hb6
      have HB6w : Hid (Below w.heap.size w w6) := HB5w.out.trans (hb6.mono HB5w.out.size)
      clear hb6 HX5 HY5 HB5 HB5w
      go_wp2_with fail
      refine (same11_b w6 _ _ l (HIN3.out.kept HB6.out) (HE0.out.kept HB6w.out)).mono ?_
      rintro e w7 ⟨rfl, hb7⟩
      have HX7 : Hid (Els encM 5 w7 x4 (applyM l puts gone)) := HX6.out.kept hb7
      have HB7 : Hid (Below w.heap.size w w7) := HB6w.out.trans (hb7.mono HB6w.out.size)
      clear hb7 HX6 HB6 HB6w HIN3 HB3w
      have HFO : Hid (∀ g ∈ gone, (findM (applyM l puts gone) g).isSome = hasP puts g) := fun g hg => apply_found hg
      have HLE : Hid (∀ (i : Nat) a b, (applyM l puts gone)[i]? = some a → (applyM l puts gone)[i + 1]? = some b → ltK a.k b.k = true) := fun i a b ha hb => apply_less ha hb
      generalize applyM l puts gone = xs at *
      obtain ⟨ax, cx, ex⟩ := HX7.out.shape
      subst ex
      obtain ⟨N, hN⟩ : ∃ N, N = xs.length := ⟨_, rfl⟩
      have HN : Hid (N = xs.length) := hN
      have hNm : N ≤ 9223372036854775807 := by have := HX7.out.1; unfold maxLen at this; omega
      rw [← hN] at HX7 ⊢
      clear hN
      go_wp2_with fail
      go_loopw [11] (fun i wr => ∃ k : Nat, i = .int .i64 (k : Nat) ∧ k ≤ len2 ∧ Hid (Below w7.heap.size w7 wr)) (fun i _ => len2 - (intOf i).toNat)
      case atStart => exact ⟨0, rfl, Nat.zero_le _, Below.refl _ _⟩
      case round =>
        obtain ⟨k, rfl, hk, HB⟩ := hrel
        have HBw : Hid (Below w.heap.size w wr) := HB7.out.trans (HB.out.mono HB7.out.size)
        by_cases hlt : k < len2
        · obtain ⟨q, off, rfl, hq, hc⟩ := (HE2.out.kept HBw.out).addr (by omega)
          obtain ⟨h, p, hkk⟩ := key_at (ks := gone) (j := k) (by rw [HL2.out]; exact hlt)
          obtain ⟨hc0, hc1⟩ := hc k _ hkk
          simp only at hc0 hc1
          have HCK : Hid (∀ W, Below wr.heap.size wr W → W.cell? ⟨q, off + k * 2, none⟩ = some (.int .i64 h) ∧ W.cell? ⟨q, off + k * 2 + 1, none⟩ = some (.int .i64 p)) := fun W hW => ⟨(hW.cell (p := ⟨q, off + k * 2, none⟩) hq).trans hc0, (hW.cell (p := ⟨q, off + k * 2 + 1, none⟩) hq).trans hc1⟩
          have HOK : Hid ((findM xs (h, p)).isSome = hasP puts (h, p)) := HFO.out _ (List.mem_of_getElem? hkk)
          have HFA : Hid (∀ W, Els encM 5 W (.slice ax N cx) xs → Calls Try.prog 15 #[.slice ax N cx, .agg #[.int .i64 h, .int .i64 p]] W fun e w' => e = .returned (.tuple #[entV (findM xs (h, p)), .bool (hasP puts (h, p))]) ∧ Below W.heap.size W w') := fun W hx => by
            have := find11_any W _ xs h p hx
            rwa [HOK.out] at this
          have HFB : Hid (∀ W, Els encM 5 W (.slice ax N cx) xs → Calls Try.prog 16 #[.slice ax N cx, .agg #[.int .i64 h, .int .i64 p]] W fun e w' => e = .returned (.tuple #[entV (findM xs (h, p)), .bool (hasP puts (h, p))]) ∧ Below W.heap.size W w') := fun W hx => by
            have := refFind11_any W _ xs h p hx
            rwa [HOK.out] at this
          have HXr : Hid (Els encM 5 wr (.slice ax N cx) xs) := HX7.out.kept HB.out
          obtain ⟨s0, g0, u0, he0⟩ : ∃ s0 g0 u0, entV (findM xs (h, p)) = .agg #[.int .i64 s0, .int .i64 g0, .int .u32 (u0 : Nat)] := ⟨_, _, _, rfl⟩
          rw [he0] at HFA HFB
          have HHP : Hid (hasP puts (h, p) = hasP puts (h, p)) := rfl
          clear hc hkk he0 HOK
          go_wp2_with fail
          refine (HFA.out wr HXr.out).mono ?_
          rintro e w8 ⟨rfl, hb8⟩
          obtain ⟨W8, hW8⟩ : ∃ W8, W8 = w8.alloc (.cells #[.int .i64 s0, .int .i64 g0, .int .u32 (u0 : Nat)] 39) := ⟨_, rfl⟩
          obtain ⟨Y, hY⟩ : ∃ Y, Y = w8.heap.size := ⟨_, rfl⟩
          have HEC : Hid (∀ W', Below W8.heap.size W8 W' → W'.cell? ⟨Y, 0, none⟩ = some (.int .i64 s0) ∧ W'.cell? ⟨Y, 1, none⟩ = some (.int .i64 g0) ∧ W'.cell? ⟨Y, 2, none⟩ = some (.int .u32 (u0 : Nat))) := fun W' hb => by rw [hW8] at hb; rw [hY]; exact ent_cells hb
          have HBr8 : Hid (Below wr.heap.size wr W8) := by rw [hW8]; exact hb8.alloc hb8.size _
          have HX8 : Hid (Els encM 5 W8 (.slice ax N cx) xs) := HXr.out.kept HBr8.out
          obtain ⟨t0, t1⟩ := HCK.out (w8.alloc (.cells #[.int .i64 s0, .int .i64 g0, .int .u32 (u0 : Nat)] 39)) (by rw [← hW8]; exact HBr8.out)
          clear hb8 HFA hc0 hc1
          go_wp2_with fail
          rw [← hW8]
          try rw [← hY]
          clear hW8 hY
          refine (HFB.out W8 HX8.out).mono ?_
          rintro e w9 ⟨rfl, hb9⟩
          have HBr9 : Hid (Below wr.heap.size wr w9) := HBr8.out.trans (hb9.mono HBr8.out.size)
          have hge : Below w9.heap.size w9 (w9.alloc (.cells #[.int .i64 s0, .int .i64 g0, .int .u32 (u0 : Nat)] 39)) := (Below.refl _ _).alloc (Nat.le_refl _) _
          obtain ⟨e0, e1, e2⟩ := HEC.out _ (hb9.trans (hge.mono hb9.size))
          obtain ⟨e3, e4, e5⟩ := new_three w9 (.int .i64 s0) (.int .i64 g0) (.int .u32 (u0 : Nat)) 39
          have HBr10 : Hid (Below wr.heap.size wr (w9.alloc (.cells #[.int .i64 s0, .int .i64 g0, .int .u32 (u0 : Nat)] 39))) := HBr9.out.trans (hge.mono HBr9.out.size)
          clear hb9 hge HFB HX8 HEC t0 t1 HBr8
          obtain ⟨PB, hPB⟩ : ∃ PB, PB = hasP puts (h, p) := ⟨_, rfl⟩
          have HPB : Hid (PB = hasP puts (h, p)) := hPB
          rw [← hPB]
          clear hPB HHP
          go_wp2_with fail
          generalize w9.alloc (.cells #[.int .i64 s0, .int .i64 g0, .int .u32 (u0 : Nat)] 39) = V at *
          clear e0 e1 e2 e3 e4 e5
          obtain ⟨t0, t1⟩ := HCK.out V HBr10.out
          have HEP : Hid (Els encM 5 V (.slice a1 len1 cap1) puts) := HE1.out.kept (HBw.out.trans (HBr10.out.mono HBw.out.size))
          go_loopw [16, 17] (fun v i wv => ∃ j : Nat, i = .int .i64 (j : Nat) ∧ j ≤ len1 ∧ v = .bool (hasP (puts.take j) (h, p)) ∧ ∃ m, wv = V.drewN m) (fun _ i _ => len1 - (intOf i).toNat)
          case atStart => exact ⟨0, rfl, Nat.zero_le _, rfl, 0, rfl⟩
          case round =>
            obtain ⟨j, rfl, hj, rfl, m3, rfl⟩ := hrel
            by_cases hlt2 : j < len1
            · obtain ⟨b, of2, rfl, hb, hc⟩ := HEP.out.md (by omega)
              obtain ⟨mh, mp, ms, mg, mu, hkk⟩ := md_at (xs := puts) (j := j) (by rw [HL1.out]; exact hlt2)
              obtain ⟨c0, c1, c2, c3, c4⟩ := hc j _ hkk
              have HHS : Hid (hasP (puts.take (j + 1)) (h, p) = (hasP (puts.take j) (h, p) || decide ((mh, mp) = (h, p)))) := hasP_snoc hkk
              simp only at c0 c1
              clear hc hb hkk c2 c3 c4
              generalize hasP (puts.take j) (h, p) = B0 at *
              cases B0
              · by_cases q1 : mh = h
                · by_cases q2 : mp = p
                  · subst q1 q2
                    have HH2 : Hid (hasP (puts.take (j + 1)) (mh, mp) = true) := by rw [HHS.out]; simp [Hid]
                    clear HHS
                    go_wp2_with fail
                    go_quiet (fail)
                    go_wp2_with fail
                    go_roundw
                    case rel => exact ⟨j + 1, by go_num, by omega, by rw [HH2.out], _, rfl⟩
                    case measure => simp [intOf]; omega
                  · have HH2 : Hid (hasP (puts.take (j + 1)) (h, p) = false) := by rw [HHS.out]; simpa [Hid] using fun _ e => q2 e
                    have hne : (mp == p) = false := by simpa using q2
                    clear HHS
                    subst q1
                    go_wp2_with fail
                    go_quiet (fail)
                    go_wp2_with fail
                    go_roundw
                    case rel => exact ⟨j + 1, by go_num, by omega, by rw [HH2.out], _, rfl⟩
                    case measure => simp [intOf]; omega
                · have HH2 : Hid (hasP (puts.take (j + 1)) (h, p) = false) := by rw [HHS.out]; simpa [Hid] using fun e => absurd e q1
                  have hne : (mh == h) = false := by simpa using q1
                  clear HHS
                  go_wp2_with fail
                  go_quiet (fail)
                  go_wp2_with fail
                  go_roundw
                  case rel => exact ⟨j + 1, by go_num, by omega, by rw [HH2.out], _, rfl⟩
                  case measure => simp [intOf]; omega
              · have HH2 : Hid (hasP (puts.take (j + 1)) (h, p) = true) := by rw [HHS.out]; simp [Hid]
                clear HHS
                go_wp2_with fail
                go_quiet (fail)
                go_wp2_with fail
                go_roundw
                case rel => exact ⟨j + 1, by go_num, by omega, by rw [HH2.out], _, rfl⟩
                case measure => simp [intOf]; omega
            · have HHE : Hid (hasP (puts.take j) (h, p) = PB) := by
                unfold Hid
                rw [HPB.out, List.take_of_length_le (by rw [HL1.out]; omega)]
              rw [HHE.out]
              have HB11 : Hid (Below w7.heap.size w7 (V.drewN m3)) := HB.out.trans ((HBr10.out.trans ((below_dr V m3).mono HBr10.out.size)).mono HB.out.size)
              clear HHE HPB HEP
              go_wp2_with fail
              go_roundw
              case rel => exact ⟨k + 1, by go_num, by omega, HB11.out⟩
              case measure => simp [intOf]; omega
        · have HXr : Hid (Els encM 5 wr (.slice ax N cx) xs) := HX7.out.kept HB.out
          clear HFO HE0 HE1 HE2 HI0 HI1 HB HX7
          generalize wr = V5 at *
          go_wp2_with fail
          go_loopw [18] (fun i wv => ∃ j : Nat, i = .int .i64 ((j : Nat) + 1) ∧ (j = 0 ∨ j + 1 ≤ N) ∧ Hid (Below V5.heap.size V5 wv)) (fun i _ => N - (intOf i).toNat)
          case atStart => exact ⟨0, rfl, .inl rfl, Below.refl _ _⟩
          case round =>
            obtain ⟨i, rfl, hi, HBv⟩ := hrel
            by_cases hlt2 : i + 1 < N
            · obtain ⟨b, of2, rfl, hb, hc⟩ := (HXr.out.kept HBv.out).md (by omega)
              obtain ⟨qh, qp, qs, qg, qu, hqq⟩ := md_at (xs := xs) (j := i) (by rw [← HN.out]; omega)
              obtain ⟨mh, mp, ms, mg, mu, hmm⟩ := md_at (xs := xs) (j := i + 1) (by rw [← HN.out]; omega)
              obtain ⟨e0, e1, _⟩ := hc i _ hqq
              obtain ⟨f0, f1, _⟩ := hc (i + 1) _ hmm
              have HLT : Hid (ltK (qh, qp) (mh, mp) = true) := HLE.out i _ _ hqq hmm
              simp only at e0 e1 f0 f1
              have HLS : Hid (∀ W, Calls Try.prog 17 #[.agg #[.int .i64 qh, .int .i64 qp], .agg #[.int .i64 mh, .int .i64 mp]] W fun e w' => e = .returned (.bool true) ∧ Below W.heap.size W w') := fun W => by
                have := refLess_any qh qp mh mp W
                rwa [HLT.out] at this
              have hki : ((i : Int) + 1) - 1 = (i : Nat) := by omega
              have hkw : IntKind.i64.wrap ((i : Nat) : Int) = (i : Nat) := by rw [IntKind.wrap_i64]; omega
              have hiL : ((i : Nat) : Int) < (N : Nat) := by omega
              have hi0 : (0 : Int) ≤ (i : Nat) := by omega
              have hiL2 : ((i : Nat) : Int) + 1 < (N : Nat) := by omega
              have hi02 : (0 : Int) ≤ ((i : Nat) : Int) + 1 := by omega
              have htn : (((i : Nat) : Int) + 1).toNat = i + 1 := by omega
              have p0 := cell_regrown e0
              have p1 := cell_regrown e1
              have p2 := cell_regrown f0
              have p3 := cell_regrown f1
              have hcall : ∀ d os, Calls Try.prog 17 #[.agg #[.int .i64 qh, .int .i64 qp], .agg #[.int .i64 mh, .int .i64 mp]] (Sort.grow (redrawn wr d) os) fun e w'' => e = .returned (.bool true) ∧ ∃ p : Regrown, w'' = Sort.grow (redrawn wr p.d) p.os := fun d os => Calls.regrown_of (HLS.out _)
              have HBV : Hid (Below V5.heap.size V5 wr) := HBv.out
              clear HLS hc hb hqq hmm HLT HBv
              go_wp2_with fail
              refine wp_region_quiet_below Try.mixed11 (by kernel_rfl) ?_
              repeat (quiet_step (first | (go_at_call 17; with_reducible exact hcall _ _)))
              refine wpQuiet_nil ?_
              intro _ hw'
              obtain ⟨⟨dq, osq⟩, hw''⟩ := hw'
              subst hw''
              dsimp only
              have HB4 : Hid (Below V5.heap.size V5 (Sort.grow (redrawn wr dq) osq)) := HBV.out.trans ((below_regrown wr dq osq).mono HBV.out.size)
              generalize Sort.grow (redrawn wr dq) osq = W4 at *
              clear hcall p0 p1 p2 p3 e0 e1 f0 f1
              go_wp2_with fail
              go_roundw
              case rel => exact ⟨i + 1, by go_num, by omega, HB4.out⟩
              case measure => simp [intOf]; omega
            · have hni : ¬ ((i : Int) + 1 < (N : Int)) := by omega
              have HBe : Hid (Below w.heap.size w wr) := HBw.out.trans (HBv.out.mono HBw.out.size)
              go_wp2_with fail
              go_ret
              exact ⟨rfl, HBe.out⟩

theorem entryApplies_walk (a0 : Option Addr) (len0 cap0 : Nat) (c0 : List Md) (a1 : Option Addr) (len1 cap1 : Nat) (c1 : List Md) (a2 : Option Addr) (len2 cap2 : Nat) (c2 : List Ky) (w : World) (f0 : Els encM 5 w (.slice a0 len0 cap0) c0) (g0 : ∀ y ∈ c0, MdI y) (f1 : Els encM 5 w (.slice a1 len1 cap1) c1) (g1 : ∀ y ∈ c1, MdI y) (f2 : Keys w (.slice a2 len2 cap2) c2) :
    Calls Try.prog 4 #[.slice a0 len0 cap0, .slice a1 len1 cap1, .slice a2 len2 cap2] w fun e w' => e = .returned (.bool true) ∧ Below w.heap.size w w' := by
  have hm0 : len0 ≤ 9223372036854775807 := by have := f0.capLe; unfold maxLen at this; omega
  have hm1 : len1 ≤ 9223372036854775807 := by have := f1.capLe; unfold maxLen at this; omega
  have hm2 : len2 ≤ 9223372036854775807 := by have := f2.capLe; unfold maxLen at this; omega
  by_cases h0 : 20 < len0
  · have q0 : (20 : Int) < len0 := by omega
    clear f0 g0 f1 g1 f2
    go_enter Try.func4, Try.ntmps4
    go_wp2_with fail
    refine (awake11 _).mono ?_
    rintro e w1 ⟨rfl, hb1⟩
    have HB1 : Hid (Below w.heap.size w w1) := hb1
    clear hb1
    go_wp2_with fail
    refine (awake11 _).mono ?_
    rintro e w2 ⟨rfl, hb2⟩
    have HB2 : Hid (Below w.heap.size w w2) := HB1.out.trans (hb2.mono HB1.out.size)
    clear hb2
    go_wp2_with fail
    go_ret
    exact ⟨rfl, HB2.out⟩
  by_cases h1 : 20 < len1
  · have q0 : ¬ (20 : Int) < len0 := by omega
    have q1 : (20 : Int) < len1 := by omega
    clear f0 g0 f1 g1 f2
    go_enter Try.func4, Try.ntmps4
    go_wp2_with fail
    refine (awake11 _).mono ?_
    rintro e w1 ⟨rfl, hb1⟩
    have HB1 : Hid (Below w.heap.size w w1) := hb1
    clear hb1
    go_wp2_with fail
    refine (awake11 _).mono ?_
    rintro e w2 ⟨rfl, hb2⟩
    have HB2 : Hid (Below w.heap.size w w2) := HB1.out.trans (hb2.mono HB1.out.size)
    clear hb2
    go_wp2_with fail
    go_ret
    exact ⟨rfl, HB2.out⟩
  by_cases h2 : 20 < len2
  · have q0 : ¬ (20 : Int) < len0 := by omega
    have q1 : ¬ (20 : Int) < len1 := by omega
    have q2 : (20 : Int) < len2 := by omega
    clear f0 g0 f1 g1 f2
    go_enter Try.func4, Try.ntmps4
    go_wp2_with fail
    refine (awake11 _).mono ?_
    rintro e w1 ⟨rfl, hb1⟩
    have HB1 : Hid (Below w.heap.size w w1) := hb1
    clear hb1
    go_wp2_with fail
    refine (awake11 _).mono ?_
    rintro e w2 ⟨rfl, hb2⟩
    have HB2 : Hid (Below w.heap.size w w2) := HB1.out.trans (hb2.mono HB1.out.size)
    clear hb2
    go_wp2_with fail
    go_ret
    exact ⟨rfl, HB2.out⟩
  exact applies_main a0 len0 cap0 c0 a1 len1 cap1 c1 a2 len2 cap2 c2 w f0 g0 f1 g1 f2 (by omega) (by omega) (by omega)
end Go.Proofs.Ytfclhehpbniapaa
