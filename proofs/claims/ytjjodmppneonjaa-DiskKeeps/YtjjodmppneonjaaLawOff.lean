/- The walk of the law 'DiskOff': it returns true for every input. -/
import Derived.Test.YtjjodmppneonjaaWalkAwake3
namespace Go.Proofs.Ytjjodmppneonjaa
open Go.RowKit
set_option linter.unusedVariables false

theorem fifth (c : Int) (h1 : -9223372036854775808 ≤ c) (h2 : c ≤ 9223372036854775807) : ∃ k : Nat, k ≤ 4 ∧ (c.tmod 5 + 5).tmod 5 = (k : Int) := by
  have h3 := Int.tmod_lt_of_pos c (show (0 : Int) < 5 by decide)
  have h4 := Int.lt_tmod_of_pos c (show (0 : Int) < 5 by decide)
  have h5 := Int.tmod_nonneg 5 (show 0 ≤ c.tmod 5 + 5 by omega)
  have h6 := Int.tmod_lt_of_pos (c.tmod 5 + 5) (show (0 : Int) < 5 by decide)
  obtain ⟨k, hk⟩ := Int.eq_ofNat_of_zero_le h5
  exact ⟨k, by omega, hk⟩

/-- The disk behind j writes, where k calls were let. -/
def offSt (k : Nat) (s : Sec) (j : Nat) : St := { n := 2, safe := fun _ => Sec.zero, waits := List.replicate (min j k) (1, s), written := min j k, left := ((k - min j k : Nat) : Int) }
theorem St.ext' {A B : St} (h1 : A.n = B.n) (h2 : A.safe = B.safe) (h3 : A.waits = B.waits) (h4 : A.written = B.written) (h5 : A.left = B.left) : A = B := by
  cases A; cases B; simp_all
theorem off_on {k : Nat} {s : Sec} {j : Nat} (h : j < k) : (offSt k s j).wait 1 s = offSt k s (j + 1) := by
  have e1 : min j k = j := by omega
  have e2 : min (j + 1) k = j + 1 := by omega
  refine St.ext' rfl rfl ?_ ?_ ?_
  · simp only [St.wait, offSt, e1, e2, List.replicate_succ']
  · simp only [St.wait, offSt, e1, e2]
  · simp only [St.wait, St.spent, offSt, e1, e2]
    rw [if_pos (by omega)]
    omega
theorem off_off {k : Nat} {s : Sec} {j : Nat} (h : k ≤ j) : (offSt k s j).spent = offSt k s (j + 1) := by
  have e1 : min j k = k := by omega
  have e2 : min (j + 1) k = k := by omega
  refine St.ext' rfl rfl ?_ ?_ ?_
  · simp only [St.spent, offSt, e1, e2]
  · simp only [St.spent, offSt, e1, e2]
  · simp only [St.spent, offSt, e1, e2, Nat.sub_self]
    rfl
theorem crashTo_none (c : Int) (f : Nat → Sec) (ps : List Wr) (k : Nat) : crashTo [] (-1) c f ps k = f := by
  induction k with
  | zero => rfl
  | succ k ih =>
    simp only [crashTo]
    split
    · rw [ih]
      simp only [crashStep]
      rw [if_neg (by simp), if_neg (by omega)]
    · exact ih

theorem str_0 : strN [0, 0, 0, 0] = { data := #[0, 0, 0, 0] } := rfl
theorem str_x : strN [120] = { data := #[120] } := rfl
theorem small_x : ∀ t ∈ [120], t < 256 := by decide
def secX : Sec := secOf [120] (by decide) small_x
theorem sector_x (w : World) : Calls Try.prog 15 #[.string { data := #[120] }] w fun e w' => e = .returned (.slice (some ⟨w.heap.size, 0, none⟩) 128 128) ∧ w' = w.alloc (.cells secX.cells.toArray 5) := sector_v w [120] (by decide) small_x

set_option maxHeartbeats 2000000 in
theorem off_main (c : Int) (ts : List Nat) (hl : ts.length = 4) (ho : ∀ t ∈ ts, t < 256) (w : World) (h1 : -9223372036854775808 ≤ c) (h2 : c ≤ 9223372036854775807) :
    Calls Try.prog 5 #[.int .i64 c, .agg (u8s ts).toArray] w fun e w' => e = .returned (.bool true) ∧ Below w.heap.size w w' := by
  obtain ⟨k, hk4, hk0⟩ := fifth c h1 h2
  have hk : (wrap64 (c.tmod 5 + 5)).tmod 5 = (k : Int) := by
    have h3 := Int.tmod_lt_of_pos c (show (0 : Int) < 5 by decide)
    have h4 := Int.lt_tmod_of_pos c (show (0 : Int) < 5 by decide)
    have e : wrap64 (c.tmod 5 + 5) = c.tmod 5 + 5 := by unfold wrap64; omega
    rw [e]; exact hk0
  clear hk0
  have hbt : ∀ (w' : World), w'.heap[w.heap.size]? = some (.cells (u8s ts).toArray 45 (0, 0)) → (convert 22 9 (.slice (some ⟨w.heap.size, 0, none⟩) 4 4)).run Try.prog w' = .ok (.string (strN ts)) w' := by
    intro w' hw'
    refine conv_octs (zs := ts) ?_ 22 5 9 Try.underlying22 Try.underlying5 Try.underlying9
    refine ⟨ho, by rw [hl]; decide, _, 4, by rw [hl], by rw [hl]; exact Nat.le_refl _, by decide, .inr ⟨_, rfl, .inr ⟨_, 0, rfl, (Array.getElem?_eq_some_iff.1 hw').1, ?_⟩⟩⟩
    intro j hj
    rw [cell_of_row _ _ _ _ _ _ hw', Nat.zero_add]
    simp [u8s, List.getElem?_eq_getElem hj]
  have HBT : Hid (∀ (w' : World), w'.heap[w.heap.size]? = some (.cells (u8s ts).toArray 45 (0, 0)) → (convert 22 9 (.slice (some ⟨w.heap.size, 0, none⟩) 4 4)).run Try.prog w' = .ok (.string (strN ts)) w') := hbt
  have HSV : Hid (∀ w', Calls Try.prog 15 #[.string (strN ts)] w' fun e w'' => e = .returned (.slice (some ⟨w'.heap.size, 0, none⟩) 128 128) ∧ w'' = w'.alloc (.cells (secOf ts (by omega) ho).cells.toArray 5)) := fun w' => sector_v w' ts (by omega) ho
  obtain ⟨s, hs⟩ : ∃ s, secOf ts (by omega) ho = s := ⟨_, rfl⟩
  rw [hs] at HSV
  have hbx := heap_alloc_last w (.cells (u8s ts).toArray 45)
  obtain ⟨A, hA⟩ : ∃ A, (u8s ts).toArray = A := ⟨_, rfl⟩
  have hAs : A.size = 4 := by rw [← hA]; simp [u8s_length, hl]
  rw [hA] at HBT hbx ⊢
  obtain ⟨bs, hbs⟩ : ∃ bs, strN ts = bs := ⟨_, rfl⟩
  rw [hbs] at HBT HSV
  have HBX : Hid ((w.alloc (.cells A 45)).heap[w.heap.size]? = some (.cells A 45 (0, 0))) := hbx
  clear hbt hs hA hbs hl ho hbx
  go_enter Try.func5, Try.ntmps5
  go_wp2_with fail
  refine (awake3 _).mono ?_
  rintro e w1 ⟨rfl, hb1⟩
  have HB1 : Hid (Below (w.heap.size + 1) (w.alloc (.cells A 45)) w1) := by rw [World.size_alloc] at hb1; exact hb1
  clear hb1
  go_wp2_with fail
  refine (new_v (fun k => k < w.heap.size + 1) w1 2 (by decide) (by decide) (fun k hk => by have := HB1.out.size; simp at this; omega)).mono ?_
  rintro e w2 ⟨L, rfl, hD, hb2, _⟩
  have HD2 : Hid (IsDisk (fun k => k < w.heap.size + 1) w2 L (freshSt 2)) := hD
  have HB2 : Hid (Kept (fun k => k < w.heap.size + 1) (w.alloc (.cells A 45)) w2) := (Kept.ofBelow HB1.out (fun k hk => hk)).trans (Kept.ofBelow hb2 (fun k hk => by have := HB1.out.size; simp at this; omega))
  clear hD hb2
  go_wp2_with fail
  refine (limit_v HD2.out (k : Int) (by omega)).mono ?_
  rintro e w3 ⟨⟨v3, rfl⟩, hD, hk3⟩
  have HD3 : Hid (IsDisk (fun k => k < w.heap.size + 1) w3 L (offSt k s 0)) := by
    have e : ({ freshSt 2 with left := limitOf (k : Int) } : St) = offSt k s 0 := by
      refine St.ext' rfl rfl ?_ ?_ ?_
      · simp [offSt, freshSt]
      · simp [offSt, freshSt]
      · simp only [offSt, limitOf]
        rw [if_neg (by omega)]
        simp
    rw [← e]; exact hD
  have HB3 : Hid (Kept (fun k => k < w.heap.size + 1) (w.alloc (.cells A 45)) w3) := HB2.out.trans hk3
  clear hD hk3 hk
  go_wp2_with fail
  go_loopw [8, 9] (fun n i wr => ∃ j : Nat, j ≤ 5 ∧ i = .int .i64 j ∧ n = .int .i64 (min j k : Nat) ∧ (∃ wv, IsDisk (fun k => k < w.heap.size + 1) wr { L with wv := wv } (offSt k s j)) ∧ Kept (fun k => k < w.heap.size + 1) (w.alloc (.cells A 45)) wr) (fun _ i _ => 5 - (intOf i).toNat)
  case atStart => exact ⟨0, by omega, rfl, by simp, ⟨L.wv, HD3.out⟩, HB3.out⟩
  case round =>
    obtain ⟨j, hj, rfl, rfl, ⟨wv, hD⟩, hkp⟩ := hrel
    have HD : Hid (IsDisk (fun k => k < w.heap.size + 1) wr { L with wv := wv } (offSt k s j)) := hD
    have HKP : Hid (Kept (fun k => k < w.heap.size + 1) (w.alloc (.cells A 45)) wr) := hkp
    by_cases hlt : j < 5
    · have hconv := HBT.out wr ((hkp.block w.heap.size (by omega)).trans HBX.out)
      clear hD hkp
      by_cases hjk : j < k
      · have e1 : min j k = j := by omega
        have e2 : min (j + 1) k = j + 1 := by omega
        rw [e1]
        go_wp2_with fail
        refine (HSV.out _).mono ?_
        rintro e w5 ⟨rfl, rfl⟩
        go_wp2_with fail
        refine (write_new HD.out 1 s (by show 1 < 2; decide) (by show ((k - min j k : Nat) : Int) ≠ 0; omega) (by show (List.replicate (min j k) (1, s)).length < _; rw [List.length_replicate]; omega) (by show min j k < _; omega)).mono ?_
        rintro e w6 ⟨rfl, ⟨wv6, hD6⟩, hk6⟩
        rw [off_on hjk] at hD6
        have HD6 : Hid (IsDisk (fun k => k < w.heap.size + 1) w6 { L with wv := wv6 } (offSt k s (j + 1))) := hD6
        have HK6 : Hid (Kept (fun k => k < w.heap.size + 1) (w.alloc (.cells A 45)) w6) := HKP.out.trans hk6
        clear hD6 hk6
        go_wp2
        go_roundw
        case rel => exact ⟨j + 1, by omega, by simp, by rw [e2]; simp, ⟨wv6, HD6.out⟩, HK6.out⟩
        case measure => simp [intOf]; omega
      · have e1 : min j k = k := by omega
        have e2 : min (j + 1) k = k := by omega
        rw [e1]
        go_wp2_with fail
        refine (HSV.out _).mono ?_
        rintro e w5 ⟨rfl, rfl⟩
        go_wp2_with fail
        refine (write_off (HD.out.alloc _) 1 _ 128 (by show 2 ≤ 2; decide) (by show ((k - min j k : Nat) : Int) = 0; omega)).mono ?_
        rintro e w6 ⟨rfl, hD6, hk6⟩
        rw [off_off (by omega)] at hD6
        have HD6 : Hid (IsDisk (fun k => k < w.heap.size + 1) w6 { L with wv := wv } (offSt k s (j + 1))) := hD6
        have HK6 : Hid (Kept (fun k => k < w.heap.size + 1) (w.alloc (.cells A 45)) w6) := (HKP.out.alloc HD.out.kl _).trans hk6
        clear hD6 hk6
        go_wp2
        go_roundw
        case rel => exact ⟨j + 1, by omega, by simp, by rw [e2], ⟨wv, HD6.out⟩, HK6.out⟩
        case measure => simp [intOf]; omega
    · obtain rfl : j = 5 := by omega
      clear hD hkp
      have e1 : min 5 k = k := by omega
      rw [e1]
      have hl0 : (offSt k s 5).left = 0 := by show ((k - min 5 k : Nat) : Int) = 0; omega
      have hwl : (offSt k s 5).waits.length = k := by show (List.replicate (min 5 k) (1, s)).length = k; rw [List.length_replicate, e1]
      have hwr : (offSt k s 5).written = k := e1
      have hsp : (offSt k s 5).spent = offSt k s 5 := by rw [St.spent, hl0]; rw [if_neg (by decide)]; rw [← hl0]
      have H5 : Hid ((offSt k s 5).left = 0 ∧ (offSt k s 5).waits.length = k ∧ (offSt k s 5).written = k ∧ (offSt k s 5).spent = offSt k s 5 ∧ (offSt k s 5).n = 2 ∧ (offSt k s 5).safe = fun _ => Sec.zero) := ⟨hl0, hwl, hwr, hsp, rfl, rfl⟩
      clear hl0 hwl hwr hsp e1
      generalize offSt k s 5 = T at HD H5
      go_wp2_with fail
      refine (read_off HD.out 0 1 (by rw [H5.out.2.2.2.2.1]; decide) H5.out.1).mono ?_
      rintro e w5 ⟨rfl, hD5, hk5⟩
      rw [H5.out.2.2.2.1] at hD5
      have HD5 : Hid (IsDisk (fun k => k < w.heap.size + 1) w5 { L with wv := wv } T) := hD5
      have HK5 : Hid (Kept (fun k => k < w.heap.size + 1) (w.alloc (.cells A 45)) w5) := HKP.out.trans hk5
      clear hD5 hk5
      go_wp2_with fail
      refine (waiting_v HD5.out).mono ?_
      rintro e w6 ⟨rfl, rfl⟩
      rw [H5.out.2.1]
      go_wp2_with fail
      refine (flush_off HD5.out H5.out.1).mono ?_
      rintro e w7 ⟨rfl, hD7, hk7⟩
      rw [H5.out.2.2.2.1] at hD7
      have HD7 : Hid (IsDisk (fun k => k < w.heap.size + 1) w7 { L with wv := wv } T) := hD7
      have HK7 : Hid (Kept (fun k => k < w.heap.size + 1) (w.alloc (.cells A 45)) w7) := HK5.out.trans hk7
      clear hD7 hk7
      go_wp2_with fail
      refine (sector_x _).mono ?_
      rintro e w8 ⟨rfl, rfl⟩
      go_wp2_with fail
      refine (write_arg (HD7.out.alloc _) 2 _ 128 (by rw [H5.out.2.2.2.2.1]; decide)).mono ?_
      rintro e w9 ⟨rfl, hD9, hk9⟩
      have HD9 : Hid (IsDisk (fun k => k < w.heap.size + 1) w9 { L with wv := wv } T) := hD9
      have HK9 : Hid (Kept (fun k => k < w.heap.size + 1) (w.alloc (.cells A 45)) w9) := (HK7.out.alloc HD7.out.kl _).trans hk9
      clear hD9 hk9
      go_wp2_with fail
      refine (crash_v HD9.out _ [] (Ints.nil _) (-1) 0).mono ?_
      rintro e w10 ⟨rfl, hD10, hk10⟩
      have HD10 : Hid (IsDisk (fun k => k < w.heap.size + 1) w10 { L with wv := .slice none 0 0 } (T.crashed [] (-1) 0)) := hD10
      have HK10 : Hid (Kept (fun k => k < w.heap.size + 1) (w.alloc (.cells A 45)) w10) := HK9.out.trans hk10
      clear hD10 hk10
      go_wp2_with fail
      refine (begins_v HD10.out 1 (by show 1 < T.n; rw [H5.out.2.2.2.2.1]; decide) (by show (-1 : Int) ≠ 0; decide) [0, 0, 0, 0] (by decide) (by
        have e : (T.crashed [] (-1) 0).see 1 = Sec.zero := by
          rw [see_none (by rfl)]
          show crashTo [] (-1) 0 T.safe T.waits T.waits.length 1 = Sec.zero
          rw [crashTo_none, H5.out.2.2.2.2.2]
        rw [e]; decide)).mono ?_
      rintro e w11 ⟨rfl, hD11, hk11⟩
      have HD11 : Hid (IsDisk (fun k => k < w.heap.size + 1) w11 { L with wv := .slice none 0 0 } (T.crashed [] (-1) 0).spent) := hD11
      have HK11 : Hid (Kept (fun k => k < w.heap.size + 1) (w.alloc (.cells A 45)) w11) := HK10.out.trans hk11
      clear hD11 hk11
      go_wp2_with fail
      refine (writes_v HD11.out).mono ?_
      rintro e w12 ⟨rfl, rfl⟩
      rw [show (T.crashed [] (-1) 0).spent.written = k from H5.out.2.2.1]
      go_wp2
      go_ret
      refine ⟨rfl, ((Below.refl _ w).alloc (Nat.le_refl _) _).trans (HK11.out.below (fun k hk => by omega))⟩
theorem diskOff_walk (c : Int) (z : List Int) (w : World) (f0 : (Lit.int .i64 c).wf = true) (g : z.length = 4) (f1 : ∀ x ∈ z, (Lit.int .u8 x).wf = true) :
    Calls Try.prog 5 #[.int .i64 c, .agg (z.map (Value.int .u8)).toArray] w fun e w' => e = .returned (.bool true) ∧ Below w.heap.size w w' := by
  have hz : ∀ x ∈ z, 0 ≤ x ∧ x ≤ 255 := fun x hx => by
    have := f1 x hx
    simpa [Lit.wf, IntKind.min, IntKind.max, IntKind.signed, IntKind.bits] using this
  have e : z.map (Value.int .u8) = u8s (z.map Int.toNat) := by
    simp only [u8s, List.map_map]
    apply List.map_congr_left
    intro x hx
    have := hz x hx
    simp; omega
  have hc : -9223372036854775808 ≤ c ∧ c ≤ 9223372036854775807 := by simpa [Lit.wf, IntKind.min, IntKind.max, IntKind.signed, IntKind.bits] using f0
  rw [e]
  refine off_main c (z.map Int.toNat) (by simpa using g) (fun t ht => ?_) w hc.1 hc.2
  obtain ⟨x, hx, rfl⟩ := List.mem_map.1 ht
  have := hz x hx
  omega
end Go.Proofs.Ytjjodmppneonjaa
