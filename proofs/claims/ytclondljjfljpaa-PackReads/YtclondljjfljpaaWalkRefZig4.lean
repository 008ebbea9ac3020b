/- Contract of the document's reading's 'Zig'. -/
import Derived.Test.YtclondljjfljpaaWalkRefRead4
namespace Go.Proofs.Ytclondljjfljpaa
open Go.RowKit
set_option linter.unusedVariables false

abbrev twoTo64 : Nat := 18446744073709551616
/-- What the first k groups are, of 64 bits. -/
def decM (zs : List Nat) (k : Nat) : Nat := decN (zs.take k) % 18446744073709551616
def powM (k : Nat) : Nat := 128 ^ k % 18446744073709551616
theorem powM_succ (k : Nat) : powM k * 128 % 18446744073709551616 = powM (k + 1) := by
  unfold powM
  rw [Nat.pow_succ, Nat.mod_mul_mod]
theorem decM_succ (zs : List Nat) (k z : Nat) (hk : k < zs.length) (h : zs.take (k + 1) = zs.take k ++ [z]) : (decM zs k + z % 128 * powM k % 18446744073709551616) % 18446744073709551616 = decM zs (k + 1) := by
  unfold decM powM
  have hl : (zs.take k).length = k := by rw [List.length_take]; omega
  rw [h, decN_snoc, hl, Nat.mul_comm (128 ^ k), Nat.mul_mod_mod, ← Nat.add_mod]
theorem decM_lt (zs : List Nat) (k : Nat) : decM zs k < 18446744073709551616 := Nat.mod_lt _ (by decide)
theorem powM_lt (k : Nat) : powM k < 18446744073709551616 := Nat.mod_lt _ (by decide)

/-- Where a zigzag ends: it is right just if, written again, it is the same. -/
theorem zig_ref {zs : List Nat} (ho : ∀ z ∈ zs, z < 256) {k z : Nat} (hk : k < zs.length) (h10 : k < 10) (hz : zs[k]?.getD 0 = z) (hz1 : z < 128) (hall : ∀ j, j < k → 128 ≤ zs[j]?.getD 0) :
    (zigN zs = some (k + 1) ∧ decN (zs.take (k + 1)) = decM zs (k + 1) ∧ varN (decM zs (k + 1)) = zs.take (k + 1)) ∨ (zigN zs = none ∧ varN (decM zs (k + 1)) ≠ zs.take (k + 1)) := by
  obtain ⟨hs, hl⟩ := shape_take ho hk (by omega) hall
  have hlen : (zs.take (k + 1)).length = k + 1 := by rw [List.length_take]; omega
  have e : zigN zs = if zigOk k z then some (k + 1) else none := by
    unfold zigN
    rw [zigEnd_some hk h10 (by omega) hall]
    simp only []
    rw [hz]
  cases ok : zigOk k z with
  | true =>
    left
    have hg := good_zig hs (by omega) (by rw [hlen, hl, hz, Nat.add_sub_cancel]; exact ok)
    have hd : decM zs (k + 1) = decN (zs.take (k + 1)) := Nat.mod_eq_of_lt hg.1
    refine ⟨by rw [e, ok]; rfl, hd.symm, by rw [hd]; exact hg.2⟩
  | false =>
    right
    refine ⟨by rw [e, ok]; rfl, fun hv => ?_⟩
    have := bad_zig (l := zs.take (k + 1)) (by omega) (decM_lt zs (k + 1)) hv
    rw [hlen, hl, hz, Nat.add_sub_cancel, ok] at this
    cases this

theorem strN_at (zs : List Nat) (k z : Nat) (hz : zs[k]?.getD 0 = z) (hz8 : z < 256) (hk : k < zs.length) : ∀ h : k < (strN zs).size, ((strN zs)[k]'h).toNat = z := by
  intro h
  rw [List.getElem?_eq_getElem hk] at hz
  have hz' : zs[k] = z := by simpa using hz
  have e : (strN zs)[k]'h = UInt8.ofNat zs[k] := by
    simp [strN, strOfNums, ByteArray.getElem_eq_getElem_data]
  rw [e, hz']
  simp
  omega
theorem str_ne {a b : ByteArray} (h : ¬ a = b) : (a.toList == b.toList) = false := by
  have : ¬ a.toList = b.toList := fun e => h (by
    rw [ByteArray.toList_eq, ByteArray.toList_eq] at e
    exact ByteArray.ext (Array.toList_inj.1 e))
  simpa using this
theorem zig_none {s : RS} (h : zigN s.zs = none) : s.zig = 0 ∧ s.offZig = .failed := by
  have e : s.zigs = none := by unfold RS.zigs; rw [h]; simp
  unfold RS.zig RS.offZig
  rw [e]
  exact ⟨rfl, rfl⟩
theorem zig_some {s : RS} {n : Nat} (hf : s.fail = false) (h : zigN s.zs = some n) : s.zig = zagI (decN (s.zs.take n) : Nat) ∧ s.offZig = ⟨s.zs.drop n, false⟩ := by
  have e : s.zigs = some n := by unfold RS.zigs; rw [hf]; exact h
  unfold RS.zig RS.offZig
  rw [e]
  exact ⟨rfl, rfl⟩
/-- It has failed now. -/
theorem IsB.fails {w : World} {q : Nat} {s : RS} (h : IsB w q s) : IsB ((w.setCell ⟨q, 1, none⟩ (.bool true)).setCell ⟨q, 0, none⟩ (.string ByteArray.empty)) q .failed :=
  ⟨(h.1.set1 _).set0 _, by simp [RS.failed], by simp [RS.failed], fun _ => rfl⟩
theorem IsB.takes {w : World} {q : Nat} {s : RS} (h : IsB w q s) (hf : s.fail = false) (n : Nat) : IsB (w.setCell ⟨q, 0, none⟩ (.string (strN (s.zs.drop n)))) q ⟨s.zs.drop n, false⟩ := by
  refine ⟨?_, fun z hz => h.2.1 z (List.mem_of_mem_drop hz), ?_, by simp⟩
  · have := h.1.set0 (.string (strN (s.zs.drop n)))
    rw [hf] at this
    exact this
  · have := h.2.2.1
    simp only [List.length_drop]; omega

set_option maxHeartbeats 3200000 in
set_option maxRecDepth 20000 in
theorem refZigR_any {w : World} {q : Nat} {s : RS} (h : IsB w q s) :
    Calls Try.prog 19 #[.pointer (some ⟨q, 0, none⟩)] w fun e w' => e = .returned (.int .i64 s.zig) ∧ IsB w' q s.offZig ∧ Only q w w' := by
  have c0 := h.1.cell.1
  have f0 := h.1.frozen 0
  have f1 := h.1.frozen 1
  have c1 := h.1.cell.2
  have H : Hid (IsB w q s) := h
  have hl := h.2.2.1
  have hlt := h.lt
  have hsz : (strN s.zs).size = s.zs.length := strN_size _
  have HSM : Hid (∀ z ∈ s.zs, z < 256) := h.2.1
  have HF : Hid (s.zs ≠ [] → s.fail = false) := fun hne => by
    cases hf : s.fail
    · rfl
    · exact absurd (h.2.2.2 hf) hne
  clear h
  go_enter Try.func19, Try.ntmps19
  go_wp2
  go_loopw [3, 4, 5] (fun u f n wr => ∃ k : Nat, k ≤ s.zs.length ∧ k ≤ 10 ∧ u = .int .u64 (decM s.zs k : Nat) ∧ f = .int .u64 (powM k : Nat) ∧ n = .int .i64 ((k : Int) + 1) ∧ Hid (∀ j, j < k → 128 ≤ s.zs[j]?.getD 0) ∧ wr = w) (fun _ _ n _ => (11 - intOf n).toNat)
  case atStart => exact ⟨0, Nat.zero_le _, Nat.zero_le _, rfl, rfl, rfl, fun j hj => by omega, rfl⟩
  case round =>
    obtain ⟨k, hk, hk10, rfl, rfl, rfl, HA, rfl⟩ := hrel
    by_cases hin : k < s.zs.length ∧ k < 10
    · obtain ⟨h1, h2⟩ := hin
      have HK1 : Hid (k < s.zs.length) := h1
      obtain ⟨z, hz⟩ : ∃ z, s.zs[k]?.getD 0 = z := ⟨_, rfl⟩
      have HZ : Hid (s.zs[k]?.getD 0 = z) := hz
      have hz8 : z < 256 := by rw [← hz]; exact getD_small _ HSM.out k
      have hi := strN_at s.zs k z hz hz8 h1
      have HT : Hid (s.zs.take (k + 1) = s.zs.take k ++ [z]) := by
        unfold Hid
        rw [List.take_add_one]
        have : s.zs[k]? = some z := by rw [List.getElem?_eq_getElem h1] at hz ⊢; simpa using hz
        rw [this]; rfl
      have a1 : IntKind.u64.wrap (z : Int) = z := by rw [IntKind.wrap_u64]; omega
      have a2 : (z : Int).tmod 128 = ((z % 128 : Nat) : Int) := by rw [Int.tmod_eq_emod_of_nonneg (by omega)]; omega
      have a3 : IntKind.u64.wrap (((z % 128 : Nat) : Int) * (powM k : Nat)) = ((z % 128 * powM k % 18446744073709551616 : Nat) : Int) := by rw [IntKind.wrap_u64, ← Int.natCast_mul]; omega
      have a4 : IntKind.u64.wrap (((decM s.zs k : Nat) : Int) + ((z % 128 * powM k % 18446744073709551616 : Nat) : Int)) = ((decM s.zs (k + 1) : Nat) : Int) := by
        have := decM_succ s.zs k z h1 HT.out
        rw [IntKind.wrap_u64]; omega
      have a5 : IntKind.u64.wrap (((powM k : Nat) : Int) * 128) = ((powM (k + 1) : Nat) : Int) := by
        have := powM_succ k
        rw [IntKind.wrap_u64]; omega
      have hD1 := decM_lt s.zs (k + 1)
      have HRF := @zig_ref s.zs HSM.out k z h1 h2 HZ.out
      clear hz
      have HD : Hid (decM s.zs (k + 1) = decM s.zs (k + 1)) := rfl
      generalize z % 128 * powM k % 18446744073709551616 = m3 at a3 a4
      generalize z % 128 = z7 at a2 a3
      by_cases hz1 : 128 ≤ z
      · have HA' : Hid (∀ j, j < k + 1 → 128 ≤ s.zs[j]?.getD 0) := fun j hj => by
          by_cases hj2 : j = k
          · subst hj2; rw [HZ.out]; omega
          · exact HA.out j (by omega)
        clear HRF
        go_wp2
        go_roundw
        case rel => exact ⟨k + 1, by omega, by omega, rfl, rfl, by go_num, HA', trivial⟩
        case measure => simp [intOf]; omega
      · have HR := HRF (by omega) HA.out
        have hff : s.fail = false := HF.out (fun e => by rw [e] at h1; simp at h1)
        have e1 : (strN s.zs).extract 0 (k + 1) = strN (s.zs.take (k + 1)) := strN_take _ _
        have e2 : (strN s.zs).extract (k + 1) (strN s.zs).size = strN (s.zs.drop (k + 1)) := strN_drop _ _
        have g1 : (0 : Int) ≤ (k : Int) + 1 := by omega
        have g2 : (k : Int) + 1 ≤ s.zs.length := by omega
        have g3 : (k : Int) + 1 ≤ (strN s.zs).size := by rw [hsz]; exact g2
        have hsl : ∀ w : World, (Instr.slice 9 (.string (strN s.zs)) none (some (.int .i64 ((k : Int) + 1))) none).run Try.prog w = .ok (.string (strN (s.zs.take (k + 1)))) w := fun w => by
          rw [run_slice_string_to_if w _ _ _ _ Try.underlying9, if_pos ⟨g1, g3⟩, show ((k : Int) + 1).toNat = k + 1 by omega, e1]
        have hsl2 : ∀ w : World, (Instr.slice 9 (.string (strN s.zs)) (some (.int .i64 ((k : Int) + 1))) none none).run Try.prog w = .ok (.string (strN (s.zs.drop (k + 1)))) w := fun w => by
          rw [run_slice_string_from_if w _ _ _ _ Try.underlying9, if_pos ⟨g1, g3⟩, show ((k : Int) + 1).toNat = k + 1 by omega, e2]
        clear HRF HD e1 e2
        generalize decM s.zs (k + 1) = U at a4 hD1 HR
        obtain ⟨y, hy⟩ : ∃ y : Int, y = (U : Int) / 2 := ⟨_, rfl⟩
        have b1 : (U : Int).tdiv 2 = y := by rw [Int.tdiv_eq_ediv_of_nonneg (by omega)]; omega
        have b2 : IntKind.u64.wrap y = y := by rw [IntKind.wrap_u64]; omega
        have b3 : wrap64 y = y := by unfold wrap64; omega
        have hpar : (U : Int) % 2 = 0 ∨ (U : Int) % 2 = 1 := by omega
        rcases hpar with hpar | hpar
        · have b4 : (U : Int).tmod 2 = 0 := by rw [Int.tmod_eq_emod_of_nonneg (by omega)]; exact hpar
          obtain ⟨x, hx⟩ : ∃ x : Int, x = y := ⟨_, rfl⟩
          have HZX : Hid (strN (varN (zigI x).toNat) = strN (varN U)) := by
            unfold Hid
            rw [show (zigI x).toNat = U by unfold zigI; split <;> omega]
          have HXZ : Hid (zagI (U : Nat) = x) := by unfold Hid zagI; split <;> omega
          have x1 : -9223372036854775808 ≤ x := by omega
          have x2 : x ≤ 9223372036854775807 := by omega
          rw [← hx] at b3 b2 b1
          clear hy hpar hx
          clear y
          rcases HR with ⟨hr1, hr2, hr3⟩ | ⟨hr1, hr2⟩
          · have HG := zig_some (s := s) hff hr1
            have HG1 : Hid (s.zig = x) := by unfold Hid; rw [HG.1, hr2, HXZ.out]
            have HG2 : Hid (s.offZig = ⟨s.zs.drop (k + 1), false⟩) := HG.2
            rw [hr3] at HZX
            clear hr1 hr2 hr3 HG
            go_wp2
            go_region_held3 (fun w' => w'.cell? ⟨q, 0, none⟩ = some (.string (strN s.zs))) (first | exact c0 | exact c4) (first
              | (go_at_call 23; refine (refZig4_any x _ x1 x2).mono ?_; rintro e w4 ⟨rfl, hb4⟩; rw [HZX.out]
                 have HB4 : Hid (Below wr.heap.size wr w4) := below_undrew hb4
                 have c4 : w4.cell? ⟨q, 0, none⟩ = some (.string (strN s.zs)) := (HB4.out.cell (p := ⟨q, 0, none⟩) hlt).trans c0
                 have f4 : w4.frozen? ⟨q, 0, none⟩ = false := (HB4.out.frozen (p := ⟨q, 0, none⟩) hlt).trans f0
                 clear hb4))
            all_goals
              go_wp2
              go_ret
              rw [HG1.out, HG2.out]
              exact ⟨rfl, (H.out.below HB4.out).takes hff (k + 1), (Only.ofBelow HB4.out).setCell 0 _⟩
          · have HG := zig_none (s := s) hr1
            have HG1 : Hid (s.zig = 0) := HG.1
            have HG2 : Hid (s.offZig = .failed) := HG.2
            have hne0 : ¬ strN (varN U) = strN (s.zs.take (k + 1)) := fun e => hr2 (strN_inj (varN_oct U) (fun z hz => HSM.out z (List.mem_of_mem_take hz)) e)
            have hne : ((strN (varN U)).toList == (strN (s.zs.take (k + 1))).toList) = false := str_ne hne0
            clear hr1 hr2 HG hne0
            generalize strN (varN U) = SZ at HZX hne
            generalize strN (s.zs.take (k + 1)) = S1 at hsl hne
            go_wp2
            go_region_held3 (fun w' => w'.cell? ⟨q, 0, none⟩ = some (.string (strN s.zs))) (first | exact c0 | exact c4) (first
              | (go_at_call 23; refine (refZig4_any x _ x1 x2).mono ?_; rintro e w4 ⟨rfl, hb4⟩; rw [HZX.out]
                 have HB4 : Hid (Below wr.heap.size wr w4) := below_undrew hb4
                 have c4 : w4.cell? ⟨q, 0, none⟩ = some (.string (strN s.zs)) := (HB4.out.cell (p := ⟨q, 0, none⟩) hlt).trans c0
                 have c5 : w4.cell? ⟨q, 1, none⟩ = some (.bool s.fail) := (HB4.out.cell (p := ⟨q, 1, none⟩) hlt).trans c1
                 have f4 : w4.frozen? ⟨q, 0, none⟩ = false := (HB4.out.frozen (p := ⟨q, 0, none⟩) hlt).trans f0
                 have f5 : w4.frozen? ⟨q, 1, none⟩ = false := (HB4.out.frozen (p := ⟨q, 1, none⟩) hlt).trans f1
                 clear hb4))
            all_goals
              go_wp2
              go_ret
              rw [HG1.out, HG2.out]
              exact ⟨rfl, (H.out.below HB4.out).fails, ((Only.ofBelow HB4.out).setCell 1 _).setCell 0 _⟩
        · have b4 : (U : Int).tmod 2 = 1 := by rw [Int.tmod_eq_emod_of_nonneg (by omega)]; exact hpar
          obtain ⟨n1, hn1⟩ : ∃ n1 : Int, n1 = -y := ⟨_, rfl⟩
          obtain ⟨x, hx⟩ : ∃ x : Int, x = n1 - 1 := ⟨_, rfl⟩
          have b5 : wrap64 (-y) = n1 := by unfold wrap64; omega
          have b6 : wrap64 (n1 - 1) = x := by unfold wrap64; omega
          have HZX : Hid (strN (varN (zigI x).toNat) = strN (varN U)) := by
            unfold Hid
            rw [show (zigI x).toNat = U by unfold zigI; split <;> omega]
          have HXZ : Hid (zagI (U : Nat) = x) := by unfold Hid zagI; split <;> omega
          have x1 : -9223372036854775808 ≤ x := by omega
          have x2 : x ≤ 9223372036854775807 := by omega
          clear hy hpar hx hn1
          rcases HR with ⟨hr1, hr2, hr3⟩ | ⟨hr1, hr2⟩
          · have HG := zig_some (s := s) hff hr1
            have HG1 : Hid (s.zig = x) := by unfold Hid; rw [HG.1, hr2, HXZ.out]
            have HG2 : Hid (s.offZig = ⟨s.zs.drop (k + 1), false⟩) := HG.2
            rw [hr3] at HZX
            clear hr1 hr2 hr3 HG
            go_wp2
            go_region_held3 (fun w' => w'.cell? ⟨q, 0, none⟩ = some (.string (strN s.zs))) (first | exact c0 | exact c4) (first
              | (go_at_call 23; refine (refZig4_any x _ x1 x2).mono ?_; rintro e w4 ⟨rfl, hb4⟩; rw [HZX.out]
                 have HB4 : Hid (Below wr.heap.size wr w4) := below_undrew hb4
                 have c4 : w4.cell? ⟨q, 0, none⟩ = some (.string (strN s.zs)) := (HB4.out.cell (p := ⟨q, 0, none⟩) hlt).trans c0
                 have f4 : w4.frozen? ⟨q, 0, none⟩ = false := (HB4.out.frozen (p := ⟨q, 0, none⟩) hlt).trans f0
                 clear hb4))
            all_goals
              go_wp2
              go_ret
              rw [HG1.out, HG2.out]
              exact ⟨rfl, (H.out.below HB4.out).takes hff (k + 1), (Only.ofBelow HB4.out).setCell 0 _⟩
          · have HG := zig_none (s := s) hr1
            have HG1 : Hid (s.zig = 0) := HG.1
            have HG2 : Hid (s.offZig = .failed) := HG.2
            have hne0 : ¬ strN (varN U) = strN (s.zs.take (k + 1)) := fun e => hr2 (strN_inj (varN_oct U) (fun z hz => HSM.out z (List.mem_of_mem_take hz)) e)
            have hne : ((strN (varN U)).toList == (strN (s.zs.take (k + 1))).toList) = false := str_ne hne0
            clear hr1 hr2 HG hne0
            generalize strN (varN U) = SZ at HZX hne
            generalize strN (s.zs.take (k + 1)) = S1 at hsl hne
            go_wp2
            go_region_held3 (fun w' => w'.cell? ⟨q, 0, none⟩ = some (.string (strN s.zs))) (first | exact c0 | exact c4) (first
              | (go_at_call 23; refine (refZig4_any x _ x1 x2).mono ?_; rintro e w4 ⟨rfl, hb4⟩; rw [HZX.out]
                 have HB4 : Hid (Below wr.heap.size wr w4) := below_undrew hb4
                 have c4 : w4.cell? ⟨q, 0, none⟩ = some (.string (strN s.zs)) := (HB4.out.cell (p := ⟨q, 0, none⟩) hlt).trans c0
                 have c5 : w4.cell? ⟨q, 1, none⟩ = some (.bool s.fail) := (HB4.out.cell (p := ⟨q, 1, none⟩) hlt).trans c1
                 have f4 : w4.frozen? ⟨q, 0, none⟩ = false := (HB4.out.frozen (p := ⟨q, 0, none⟩) hlt).trans f0
                 have f5 : w4.frozen? ⟨q, 1, none⟩ = false := (HB4.out.frozen (p := ⟨q, 1, none⟩) hlt).trans f1
                 clear hb4))
            all_goals
              go_wp2
              go_ret
              rw [HG1.out, HG2.out]
              exact ⟨rfl, (H.out.below HB4.out).fails, ((Only.ofBelow HB4.out).setCell 1 _).setCell 0 _⟩
    · have HN : Hid (zigN s.zs = none) := by
        unfold Hid zigN
        rw [zigEnd_none fun j h1 h2 => HA.out j (by omega)]
      have HE := zig_none HN.out
      have HE1 : Hid (s.zig = 0) := HE.1
      have HE2 : Hid (s.offZig = .failed) := HE.2
      have HX : Hid (IsB ((wr.setCell ⟨q, 1, none⟩ (.bool true)).setCell ⟨q, 0, none⟩ (.string ByteArray.empty)) q .failed) := H.out.fails
      clear HE
      have hcase : k = 10 ∨ (k < 10 ∧ k = s.zs.length) := by omega
      clear hin
      rcases hcase with h10 | ⟨h10, hkl⟩
      · subst h10
        go_wp2
        go_ret
        rw [HE1.out, HE2.out]
        exact ⟨rfl, HX.out, ((Only.refl _ _).setCell 1 _).setCell 0 _⟩
      · have hq : ¬ (k : Int) + 1 ≤ s.zs.length := by omega
        go_wp2
        go_ret
        rw [HE1.out, HE2.out]
        exact ⟨rfl, HX.out, ((Only.refl _ _).setCell 1 _).setCell 0 _⟩
end Go.Proofs.Ytclondljjfljpaa
