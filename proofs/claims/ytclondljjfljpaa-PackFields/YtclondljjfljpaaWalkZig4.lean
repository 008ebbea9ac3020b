/- Contracts of a reading's 'Zig' and what it calls. -/
import Derived.Test.YtclondljjfljpaaWalkRead4
import Derived.Test.YtclondljjfljpaaMathVar
import Derived.Test.YtclondljjfljpaaWalkNum
namespace Go.Proofs.Ytclondljjfljpaa
open Go.RowKit
set_option linter.unusedVariables false

set_option maxHeartbeats 400000 in
theorem ended_any (i c : Nat) (w : World) (hi : i ≤ 9) (hc : c < 128) :
    Calls Try.prog 52 #[.int .i64 i, .int .u8 c] w fun e w' => e = .returned (.int .i64 (if zigOk i c then (i : Int) + 1 else -1)) ∧ w' = w := by
  have HK : Hid (zigOk i c = !((decide (0 < i) && decide (c = 0)) || (decide (i = 9) && decide (1 < c)))) := rfl
  generalize zigOk i c = ok at HK ⊢
  by_cases h0 : i = 0
  · subst h0
    have hok : ok = true := by rw [HK.out]; simp
    clear HK
    subst hok
    go_enter Try.func52, Try.ntmps52
    go_wp2
    all_goals go_ret
    all_goals exact ⟨rfl, rfl⟩
  · have h0' : (0 : Int) < i := by omega
    by_cases hc0 : c = 0
    · subst hc0
      have hok : ok = false := by rw [HK.out]; simp; omega
      clear HK
      subst hok
      go_enter Try.func52, Try.ntmps52
      go_wp2
      all_goals go_ret
      all_goals exact ⟨rfl, rfl⟩
    · have hc0' : ¬ (c : Int) = 0 := by omega
      by_cases h9 : i = 9
      · subst h9
        by_cases hc1 : (1 : Int) < c
        · have hok : ok = false := by rw [HK.out]; simp; omega
          clear HK
          subst hok
          go_enter Try.func52, Try.ntmps52
          go_wp2
          all_goals go_ret
          all_goals exact ⟨rfl, rfl⟩
        · have hok : ok = true := by rw [HK.out]; simp; omega
          clear HK
          subst hok
          go_enter Try.func52, Try.ntmps52
          go_wp2
          all_goals go_ret
          all_goals exact ⟨rfl, rfl⟩
      · have h9' : ¬ (i : Int) = 9 := by omega
        have hok : ok = true := by rw [HK.out]; simp; omega
        clear HK
        subst hok
        go_enter Try.func52, Try.ntmps52
        go_wp2
        all_goals go_ret
        all_goals exact ⟨rfl, rfl⟩

/-- The k-th octet of a row, as a letter of its own. -/
theorem octet_at {w : World} {b off : Nat} {zs : List Nat} (hc : OctAt w b off zs) (hz : ∀ z ∈ zs, z < 256) (k : Nat) (hk : k < zs.length) :
    ∃ z : Nat, w.cell? ⟨b, off + k, none⟩ = some (.int .u8 z) ∧ z < 256 ∧ Hid (zs[k]?.getD 0 = z) ∧ Hid (zs.take (k + 1) = zs.take k ++ [z]) := by
  refine ⟨zs[k]?.getD 0, hc k hk, getD_small zs hz k, rfl, ?_⟩
  unfold Hid
  rw [List.take_add_one, List.getElem?_eq_getElem hk]; rfl

theorem zigR_end {zs : List Nat} {k z : Nat} (hk : k < zs.length) (h10 : k < 10) (hz : zs[k]?.getD 0 = z) (hz1 : z < 128) (hall : ∀ j, j < k → 128 ≤ zs[j]?.getD 0) : zigR zs = if zigOk k z then (k : Int) + 1 else -1 := by
  unfold zigR zigN
  rw [zigEnd_some hk h10 (by omega) hall]
  simp only []
  rw [hz]
  cases zigOk k z <;> simp
theorem zigR_none {zs : List Nat} (hall : ∀ j, j < zs.length → j < 10 → 128 ≤ zs[j]?.getD 0) : zigR zs = -1 := by
  unfold zigR zigN
  rw [zigEnd_none hall]

set_option maxHeartbeats 800000 in
set_option maxRecDepth 20000 in
theorem zigzag_any (v : Value) (zs : List Nat) (w : World) (h : Octs w v zs) :
    Calls Try.prog 37 #[v] w fun e w' => e = .returned (.int .i64 (zigR zs)) ∧ w' = w := by
  have hl := h.len
  have HZ : Hid (∀ z ∈ zs, z < 256) := h.small
  obtain ⟨a, cap, rfl⟩ := h.shape
  by_cases h0 : zs.length = 0
  · have e : zs = [] := List.eq_nil_of_length_eq_zero h0
    subst e
    clear h
    go_enter Try.func37, Try.ntmps37
    go_wp2
    refine wp_loop_rounds 1 ?_
    rw [rounds_succ]
    go_wp2
    go_ret
    exact ⟨ret_int (by decide +kernel), rfl⟩
  · obtain ⟨b, off, rfl, _, hc⟩ := h.addr (by omega)
    have HC : Hid (OctAt w b off zs) := hc
    clear h hc
    have HE : Hid (∀ k z, k < zs.length → k < 10 → zs[k]?.getD 0 = z → z < 128 → (∀ j, j < k → 128 ≤ zs[j]?.getD 0) → zigR zs = if zigOk k z then (k : Int) + 1 else -1) := fun k z a b c d e => zigR_end a b c d e
    have HN : Hid ((∀ j, j < zs.length → j < 10 → 128 ≤ zs[j]?.getD 0) → zigR zs = -1) := zigR_none
    by_cases h10 : (10 : Int) < zs.length
    · go_enter Try.func37, Try.ntmps37
      go_wp2
      go_loop [7] (fun i => ∃ k : Nat, k ≤ 10 ∧ i = .int .i64 k ∧ Hid (∀ j, j < k → 128 ≤ zs[j]?.getD 0)) (fun i => 10 - (intOf i).toNat)
      case atStart => exact ⟨0, Nat.zero_le _, rfl, fun j hj => by omega⟩
      case round =>
        obtain ⟨k, hk, rfl, HA⟩ := hrel
        by_cases hlt : k < 10
        · obtain ⟨z, hcell, hz, H1, H2⟩ := octet_at HC.out HZ.out k (by omega)
          by_cases hz1 : z < 128
          · go_wp2_with fail
            refine (ended_any k z _ (by omega) hz1).mono ?_
            rintro e w' ⟨rfl, rfl⟩
            rw [← HE.out k z (by omega) hlt H1.out hz1 HA.out]
            go_wp2
            go_ret
            exact ⟨rfl, rfl⟩
          · have HA' : Hid (∀ j, j < k + 1 → 128 ≤ zs[j]?.getD 0) := fun j hj => by
              by_cases hj2 : j = k
              · subst hj2; rw [H1.out]; omega
              · exact HA.out j (by omega)
            go_wp2
            go_round
            case rel => exact ⟨k + 1, by omega, by go_num, HA'⟩
            case measure => simp [intOf]; omega
        · obtain rfl : k = 10 := by omega
          go_wp2
          go_ret
          exact ⟨ret_int (by rw [HN.out fun j _ hj => HA.out j hj]), rfl⟩
    · go_enter Try.func37, Try.ntmps37
      go_wp2
      go_loop [7] (fun i => ∃ k : Nat, k ≤ zs.length ∧ i = .int .i64 k ∧ Hid (∀ j, j < k → 128 ≤ zs[j]?.getD 0)) (fun i => zs.length - (intOf i).toNat)
      case atStart => exact ⟨0, Nat.zero_le _, rfl, fun j hj => by omega⟩
      case round =>
        obtain ⟨k, hk, rfl, HA⟩ := hrel
        by_cases hlt : k < zs.length
        · obtain ⟨z, hcell, hz, H1, H2⟩ := octet_at HC.out HZ.out k (by omega)
          by_cases hz1 : z < 128
          · go_wp2_with fail
            refine (ended_any k z _ (by omega) hz1).mono ?_
            rintro e w' ⟨rfl, rfl⟩
            rw [← HE.out k z (by omega) (by omega) H1.out hz1 HA.out]
            go_wp2
            go_ret
            exact ⟨rfl, rfl⟩
          · have HA' : Hid (∀ j, j < k + 1 → 128 ≤ zs[j]?.getD 0) := fun j hj => by
              by_cases hj2 : j = k
              · subst hj2; rw [H1.out]; omega
              · exact HA.out j (by omega)
            go_wp2
            go_round
            case rel => exact ⟨k + 1, by omega, by go_num, HA'⟩
            case measure => simp [intOf]; omega
        · obtain rfl : k = zs.length := by omega
          go_wp2
          go_ret
          exact ⟨ret_int (by rw [HN.out fun j hj _ => HA.out j hj]), rfl⟩

set_option maxHeartbeats 400000 in
theorem joined_any (v : Value) (zs : List Nat) (w : World) (h : Octs w v zs) (hl : zs.length ≤ 10) (h0 : 1 ≤ zs.length) (hd : decN zs < 18446744073709551616) :
    Calls Try.prog 40 #[v] w fun e w' => e = .returned (.int .u64 (decN zs : Nat)) ∧ w' = w := by
  have HZ : Hid (∀ z ∈ zs, z < 256) := h.small
  obtain ⟨a, cap, rfl⟩ := h.shape
  obtain ⟨b, off, rfl, _, hc⟩ := h.addr (by omega)
  have HC : Hid (OctAt w b off zs) := hc
  have HT : Hid (∀ k, decN (zs.take k) < 18446744073709551616) := fun k => Nat.lt_of_le_of_lt (decN_take zs k) hd
  clear h hc
  go_enter Try.func40, Try.ntmps40
  go_wp2
  go_loop [3, 8] (fun u i => ∃ k : Nat, k ≤ zs.length ∧ i = .int .i64 k ∧ u = .int .u64 (decN (zs.take k) : Nat)) (fun _ i => zs.length - (intOf i).toNat)
  case atStart => exact ⟨0, Nat.zero_le _, rfl, rfl⟩
  case round =>
    obtain ⟨k, hk, rfl, rfl⟩ := hrel
    by_cases hlt : k < zs.length
    · obtain ⟨z, hcell, hz, H1, H2⟩ := octet_at HC.out HZ.out k hlt
      have HS : Hid (bits .or .u64 (decN (zs.take k) : Nat) (IntKind.u64.wrap (((z % 128 : Nat) : Int) * 2 ^ (7 * k))) = (decN (zs.take (k + 1)) : Nat)) := by
        have hlen : (zs.take k).length = k := by rw [List.length_take]; omega
        have := join_step (zs.take k) z (by omega) (by rw [← H2.out]; exact HT.out _)
        rw [hlen] at this
        unfold Hid
        rw [this, H2.out]
      have ha := andNot_u8 z hz
      have hz7 : z % 128 < 128 := Nat.mod_lt _ (by decide)
      generalize z % 128 = z7 at ha HS hz7
      go_wp2
      go_round
      case rel => exact ⟨k + 1, by omega, by go_num, by rw [← HS.out]⟩
      case measure => simp [intOf]; omega
    · obtain rfl : k = zs.length := by omega
      go_wp2
      go_ret
      exact ⟨rfl, rfl⟩

theorem enters_zig : Enters 38 := fun _ _ => rfl
theorem zig_use (v : Value) (zs : List Nat) (q : Nat) (w : World) (h : Octs w v zs) (hl : zs.length ≤ 10) (h0 : 1 ≤ zs.length) (hd : decN zs < 18446744073709551616) (u : Value) (hq : w.heap[q]? = some (.cells #[u] 3 (0, 0))) :
    Calls Try.prog 38 #[v, .pointer (some ⟨q, 0, none⟩)] w fun e w' => e = .returned (.tuple #[]) ∧ w' = w.setCell ⟨q, 0, none⟩ (.int .i64 (zagI (decN zs : Nat))) := by
  have cq := cell_of_one hq
  have fq := free_of_one hq
  have H : Hid (Octs w v zs) := h
  obtain ⟨a, cap, rfl⟩ := h.shape
  clear h hq
  go_enter Try.func38, Try.ntmps38
  go_wp2_with fail
  refine (joined_any _ _ _ H.out hl h0 hd).mono ?_
  rintro e w' ⟨rfl, rfl⟩
  go_wp2_with fail
  refine (zag_any _ _ (by omega) (by omega)).mono ?_
  rintro e w' ⟨rfl, rfl⟩
  go_wp2
  go_end0
  exact ⟨rfl, rfl⟩

/-- How many octets the zigzag has that can be taken off. -/
def RS.zigs (s : RS) : Option Nat := if s.fail then none else zigN s.zs
/-- The number that is taken off. -/
def RS.zig (s : RS) : Int := match s.zigs with
  | none => 0
  | some n => zagI (decN (s.zs.take n) : Nat)
/-- What is left behind it. -/
def RS.offZig (s : RS) : RS := match s.zigs with
  | none => .failed
  | some n => ⟨s.zs.drop n, false⟩
theorem RS.zigs_some {s : RS} {n : Nat} (h : s.zigs = some n) : s.fail = false ∧ zigN s.zs = some n := by
  unfold RS.zigs at h
  cases hf : s.fail
  · rw [hf] at h; exact ⟨rfl, h⟩
  · rw [hf] at h; simp at h
theorem RS.zigs_none {s : RS} (h : s.zigs = none) : s.fail = true ∨ zigR s.zs = -1 := by
  unfold RS.zigs at h
  cases hf : s.fail
  · rw [hf] at h
    right
    unfold zigR
    rw [show zigN s.zs = none from h]
  · left; rfl

set_option maxHeartbeats 400000 in
theorem rzig_any {w : World} {p : Nat} {s : RS} (hR : IsR w p s) :
    Calls Try.prog 14 #[.pointer (some ⟨p, 0, none⟩)] w fun e w' => e = .returned (.int .i64 s.zig) ∧ IsR w' p s.offZig ∧ Only p w w' := by
  have hmf : ∀ (fn : Fn) (first cap : Array Value) (w : World), (Instr.makeFunc fn first cap).run Try.prog w = .ok (.func fn first cap) w := fun _ _ _ _ => rfl
  have H : Hid (IsR w p s) := hR
  have hlt := hR.lt
  have hsm := hR.oct
  obtain ⟨v, h1, h2⟩ := hR
  have HO : Hid (Octs (w.alloc (.cells #[.int .i64 0] 3)) v s.zs) := h2.alloc _
  have c0 : (w.alloc (.cells #[.int .i64 0] 3)).cell? ⟨p, 0, none⟩ = some v := (World.cell?_alloc_past _ _ _ hlt).trans h1.cell.1
  obtain ⟨a, cap, rfl⟩ := h2.shape
  clear h1 h2
  cases hz : s.zigs with
  | some n =>
    have hs := RS.zigs_some hz
    obtain ⟨g1, g2, g3, g4, g5, g6⟩ := zigN_good hsm hs.2
    have HE : Hid (s.zig = zagI (decN (s.zs.take n) : Nat) ∧ s.offZig = ⟨s.zs.drop n, false⟩) := by
      unfold Hid RS.zig RS.offZig; rw [hz]; exact ⟨rfl, rfl⟩
    have HZ : Hid (zigR s.zs = (n : Int)) := by unfold Hid zigR; rw [hs.2]
    have H' : Hid (IsR w p ⟨s.zs, false⟩) := by
      have := H.out
      rwa [show s = ⟨s.zs, false⟩ from by rw [← hs.1]] at this
    have HL : Hid ((s.zs.take n).length = n) := by unfold Hid; rw [List.length_take]; omega
    have HG : Hid (decN (s.zs.take n) < 18446744073709551616) := g5
    clear hs hz g4 g5 g6 hsm
    go_enter Try.func14, Try.ntmps14
    go_wp2_with fail
    refine (zigzag_any _ _ _ HO.out).mono ?_
    rintro e w' ⟨rfl, rfl⟩
    rw [HZ.out]
    go_wp2_with fail
    refine (take_fill _ enters_zig 3 _ (by simp) (.int .i64 (zagI (decN (s.zs.take n) : Nat))) H'.out n g1 fun w1 v q ho hq => zig_use v _ q w1 ho (by rw [HL.out]; exact g3) (by rw [HL.out]; exact g2) HG.out _ hq).mono ?_
    rintro e w1 ⟨rfl, hcell, hr, hk⟩
    go_wp2
    go_ret
    rw [HE.out.1, HE.out.2]
    exact ⟨rfl, hr, hk⟩
  | none =>
    have HE : Hid (s.zig = 0 ∧ s.offZig = .failed) := by
      unfold Hid RS.zig RS.offZig; rw [hz]; exact ⟨rfl, rfl⟩
    have HN : Hid (s.fail = true ∨ zigR s.zs < 0 ∨ (s.zs.length : Int) < zigR s.zs) := by
      rcases RS.zigs_none hz with h | h
      · exact .inl h
      · exact .inr (.inl (by omega))
    clear hz hsm
    go_enter Try.func14, Try.ntmps14
    go_wp2_with fail
    refine (zigzag_any _ _ _ HO.out).mono ?_
    rintro e w' ⟨rfl, rfl⟩
    go_wp2_with fail
    refine (take_empty _ 3 _ H.out (zigR s.zs) HN.out).mono ?_
    rintro e w1 ⟨rfl, hcell, hr, hk⟩
    go_wp2
    go_ret
    rw [HE.out.1, HE.out.2]
    exact ⟨rfl, hr, hk⟩
end Go.Proofs.Ytclondljjfljpaa
