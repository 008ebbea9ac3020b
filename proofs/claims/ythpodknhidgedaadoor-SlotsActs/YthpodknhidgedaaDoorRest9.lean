/- What is read of a board; Take, Run. -/
import Derived.Test.YthpodknhidgedaaDoorBoard9
import Derived.Test.YthpodknhidgedaaDoorNums9
import Derived.Deep.DeepMust
import Derived.Lib.LazyBuf
namespace Go.Proofs.YthpodknhidgedaaDoor
open Go.RowKit
set_option linter.unusedVariables false

theorem Tryd.infoI64 : (Tryd.prog.info? 3).map (fun i => (i.zero, i.size, i.bytes)) = some (some (.int .i64 0), 1, 8) := by kernel_rfl
theorem is_any (w : World) (q p b f cap n : Nat) (B : Nat → Bool) (a : Int) (h : BoardAt w q p b f cap n B) :
    Calls Tryd.prog 22 #[.pointer (some ⟨q, 0, none⟩), .int .i64 a] w fun x w' => x = .returned (.bool (decide (0 ≤ a ∧ a < (n : Int)) && B a.toNat)) ∧ w' = w := by
  have hp := h.p_cell
  have HC : Hid (Calls Tryd.prog 27 #[.pointer (some ⟨p, 0, none⟩), .int .i64 a] w fun x w' => x = .returned (.bool (decide (0 ≤ a ∧ a < (n : Int)) && B a.toNat)) ∧ w' = w) := by
    by_cases ha : 0 ≤ a ∧ a < (n : Int)
    · rw [decide_eq_true ha, Bool.true_and]
      have := has_any w p b n B a.toNat h.row (by omega)
      rwa [Int.toNat_of_nonneg ha.1] at this
    · rw [decide_eq_false ha, Bool.false_and]
      exact has_off w p b n B a h.row (by omega)
  clear h
  generalize (decide (0 ≤ a ∧ a < (n : Int)) && B a.toNat) = r at *
  go_enter Tryd.func22, Tryd.ntmps22
  go_wp2_with fail
  refine HC.out.mono ?_
  rintro e w' ⟨rfl, rfl⟩
  go_wp2
  go_ret
  exact ⟨rfl, rfl⟩
theorem size_any (w : World) (q p b f cap n : Nat) (B : Nat → Bool) (h : BoardAt w q p b f cap n B) :
    Calls Tryd.prog 10 #[.pointer (some ⟨q, 0, none⟩)] w fun x w' => x = .returned (.int .i64 (n : Nat)) ∧ w' = w := by
  have hp := h.p_cell
  have HC : Hid (Calls Tryd.prog 25 #[.pointer (some ⟨p, 0, none⟩)] w fun x w' => x = .returned (.int .i64 (n : Nat)) ∧ w' = w) := len_any w p b n B h.row
  clear h
  go_enter Tryd.func10, Tryd.ntmps10
  go_wp2_with fail
  refine HC.out.mono ?_
  rintro e w' ⟨rfl, rfl⟩
  go_wp2
  go_ret
  exact ⟨rfl, rfl⟩
set_option maxRecDepth 20000 in
set_option maxHeartbeats 1000000 in
theorem free_any (w : World) (q p b f cap n : Nat) (B : Nat → Bool) (h : BoardAt w q p b f cap n B) :
    Calls Tryd.prog 18 #[.pointer (some ⟨q, 0, none⟩)] w fun x w' => x = .returned (.int .i64 (n - cnt B 0 n : Nat)) ∧ ∃ m, w' = w.drewN m := by
  have hp := h.p_cell
  have hn := h.row.small
  have hc := cnt_le B 0 n
  have HR : Hid (RowAt w p b n B) := h.row
  have HC : Hid (∀ m, Calls Tryd.prog 31 #[.pointer (some ⟨p, 0, none⟩)] (w.drewN m) fun x w' => x = .returned (.int .i64 (cnt B 0 n : Nat)) ∧ w' = w.drewN m) := fun m => count_any _ p b n B (HR.out.drewN m)
  clear h
  generalize hx : cnt B 0 n = x at *
  clear hx
  obtain ⟨y, hy⟩ : ∃ y, y = n - x := ⟨_, rfl⟩
  have HY : Hid (y = n - x) := hy
  have hy2 : (n : Int) - (x : Nat) = (y : Nat) := by omega
  rw [← hy]
  have hyn : y ≤ 65536 := by omega
  clear hy hc
  go_enter Tryd.func18, Tryd.ntmps18
  go_wp2_with fail
  go_quiet (first
    | (go_at_call 25; exact Calls.quiet_of_same (len_any _ p b n B (HR.out.drewN _)))
    | (go_at_call 31; exact Calls.quiet_of_same (HC.out _)))
  go_wp2
  go_ret
  exact ⟨rfl, _, rfl⟩
/-- Of each cluster how many. -/
def frL (B : Nat → Bool) (n k : Nat) : List Int := (List.range k).map fun c => (fr B n c : Int)
theorem frL_length (B : Nat → Bool) (n k : Nat) : (frL B n k).length = k := by simp [frL]
theorem frL_at {B : Nat → Bool} {n k c : Nat} (h : c < k) : (frL B n k)[c]?.getD 0 = (fr B n c : Int) := by simp [frL, h]
theorem frL_small (B : Nat → Bool) (n k : Nat) : ∀ z ∈ frL B n k, I64 z := by
  intro z hz
  simp only [frL, List.mem_map] at hz
  obtain ⟨c, _, rfl⟩ := hz
  have := fr_le B n c
  exact ⟨by omega, by omega⟩
theorem BoardAt.list {w : World} {q p b f cap n : Nat} {B : Nat → Bool} (h : BoardAt w q p b f cap n B) : Nums w (.slice (some ⟨f, 0, none⟩) (wn n) cap) (frL B n (wn n)) := by
  have hr := h.room
  have hl := frL_length B n (wn n)
  refine ⟨frL_small B n _, by omega, _, cap, by rw [hl], by omega, hr.2, .inr ⟨_, rfl, .inr ⟨f, 0, rfl, h.nums.lt, fun j hj => ?_⟩⟩⟩
  rw [hl] at hj
  rw [Nat.zero_add, h.nums.c_cell j hj, frL_at hj]
theorem clone_nums (v : Value) (zs : List Int) (w : World) (h : Nums w v zs) (hlen : zs.length ≤ 100000) (hn : 0 < zs.length) :
    Calls Tryd.prog 32 #[v] w fun e w' => ∃ u, e = .returned u ∧ w'.ownsRow w.heap.size 3 1 u zs.length (nums zs) ∧ Below w.heap.size w w' := by
  obtain ⟨i0, hi, hz0, hz1, hz2⟩ := info_parts Tryd.infoI64
  have HO : Hid (Nums w v zs) := h
  obtain ⟨a, cap, rfl⟩ := h.shape
  obtain ⟨b, off, rfl, hb, -⟩ := h.addr hn
  clear h
  have heq : (binOp .eql 22 (.slice (some ⟨b, off, none⟩) zs.length cap) (.slice none 0 0)).run Tryd.prog w = .ok (.bool (some (⟨b, off, none⟩ : Addr)).isNone) w := run_eql_slice_nil (P := Tryd.prog) w _ _ _ _ _ Tryd.underlying22
  go_enter Tryd.func32, Tryd.ntmps32
  go_wp2_with (at_builtin; refine wpList_append_nums _ rfl _ _ 22 rfl w.heap.size 3 i0 Tryd.underlying22 hi hz0 hz1 hz2 _ 0 [] rfl (World.ownsRow_made _ #[] 0 (Nat.le_refl _) (by decide) rfl) _ zs rfl (HO.out.alloc _) ?d1 ?d2 ?_)
  case d1 => omega
  case d2 => simp
  intro v2 w2 hown2 hg2 _
  have HB2 : Hid (Below w.heap.size w w2) := grewAny ((Below.refl _ _).alloc (Nat.le_refl _) _) (World.ownsRow_made _ #[] 0 (Nat.le_refl _) (by decide) rfl) hg2 (by simp)
  have HO2 : Hid (w2.ownsRow w.heap.size 3 1 v2 zs.length (nums zs)) := by unfold Hid; simpa using hown2
  clear hown2 hg2
  go_wp2
  go_ret
  exact ⟨_, rfl, HO2.out, HB2.out⟩
theorem clusters_any (w : World) (q p b f cap n : Nat) (B : Nat → Bool) (h : BoardAt w q p b f cap n B) :
    Calls Tryd.prog 20 #[.pointer (some ⟨q, 0, none⟩)] w fun e w' => ∃ u, e = .returned u ∧ w'.ownsRow w.heap.size 3 1 u (wn n) (nums (frL B n (wn n))) ∧ Below w.heap.size w w' := by
  have hf := h.f_cell
  have hl := frL_length B n (wn n)
  have hs := wn_le n h.row.small
  have hp : 0 < wn n := by have := h.pos; unfold wn; omega
  have HC : Hid (Calls Tryd.prog 32 #[.slice (some ⟨f, 0, none⟩) (wn n) cap] w fun e w' => ∃ u, e = .returned u ∧ w'.ownsRow w.heap.size 3 1 u (wn n) (nums (frL B n (wn n))) ∧ Below w.heap.size w w') := by
    have := clone_nums _ _ w h.list (by omega) (by omega)
    rwa [hl] at this
  clear h hl
  go_enter Tryd.func20, Tryd.ntmps20
  go_wp2_with fail
  refine HC.out.mono ?_
  rintro e w' ⟨u, rfl, h1, h2⟩
  have H1 : Hid (w'.ownsRow w.heap.size 3 1 u (wn n) (nums (frL B n (wn n)))) := h1
  have H2 : Hid (Below w.heap.size w w') := h2
  clear h1 h2
  go_wp2
  go_ret
  exact ⟨u, rfl, H1.out, H2.out⟩

/-- Which cluster a slot is taken from. -/
def Best (B : Nat → Bool) (n k c : Nat) : Prop := c < k ∧ 0 < fr B n c ∧ (∀ d, d < k → 0 < fr B n d → fr B n c ≤ fr B n d) ∧ ∀ d, d < c → 0 < fr B n d → fr B n c < fr B n d
theorem best_new {B : Nat → Bool} {n k : Nat} (h : ∀ d, d < k → fr B n d = 0) (hp : 0 < fr B n k) : Best B n (k + 1) k :=
  ⟨by omega, hp, fun d hd h0 => by
    by_cases e : d = k
    · rw [e]; exact Nat.le_refl _
    · have := h d (by omega); omega, fun d hd h0 => by have := h d hd; omega⟩
theorem best_less {B : Nat → Bool} {n k c : Nat} (h : Best B n k c) (hp : 0 < fr B n k) (hl : fr B n k < fr B n c) : Best B n (k + 1) k :=
  ⟨by omega, hp, fun d hd h0 => by
    by_cases e : d = k
    · rw [e]; exact Nat.le_refl _
    · have := h.2.2.1 d (by omega) h0; omega, fun d hd h0 => by have := h.2.2.1 d hd h0; omega⟩
theorem best_keep {B : Nat → Bool} {n k c : Nat} (h : Best B n k c) (hl : 0 < fr B n k → fr B n c ≤ fr B n k) : Best B n (k + 1) c :=
  ⟨by have := h.1; omega, h.2.1, fun d hd h0 => by
    by_cases e : d = k
    · rw [e] at h0 ⊢; exact hl h0
    · exact h.2.2.1 d (by omega) h0, h.2.2.2⟩
theorem none_keep {B : Nat → Bool} {n k : Nat} (h : ∀ d, d < k → fr B n d = 0) (hp : fr B n k = 0) : ∀ d, d < k + 1 → fr B n d = 0 := fun d hd => by
  by_cases e : d = k
  · rw [e]; exact hp
  · exact h d (by omega)
set_option maxRecDepth 20000 in
set_option maxHeartbeats 1000000 in
theorem fullest_any (w : World) (q p b f cap n : Nat) (B : Nat → Bool) (h : BoardAt w q p b f cap n B) :
    Calls Tryd.prog 26 #[.pointer (some ⟨q, 0, none⟩)] w fun x w' => ((∃ c : Nat, x = .returned (.int .i64 (c : Nat)) ∧ Best B n (wn n) c) ∨ (x = .returned (.int .i64 (-1)) ∧ ∀ d, d < wn n → fr B n d = 0)) ∧ w' = w := by
  have hf := h.f_cell
  have hs := wn_le n h.row.small
  have HC : Hid (∀ c, c < wn n → w.cell? ⟨f, c, none⟩ = some (.int .i64 (fr B n c : Nat))) := h.nums.c_cell
  clear h
  generalize hm : wn n = m at *
  clear hm
  go_enter Tryd.func26, Tryd.ntmps26
  go_wp2
  go_loop [3, 11] (fun bt i => ∃ k : Nat, i = .int .i64 (k : Nat) ∧ k ≤ m ∧ ((∃ c : Nat, bt = .int .i64 (c : Nat) ∧ Hid (Best B n k c)) ∨ (bt = .int .i64 (-1) ∧ Hid (∀ d, d < k → fr B n d = 0)))) (fun _ i => m - (intOf i).toNat)
  case atStart => exact ⟨0, rfl, Nat.zero_le _, .inr ⟨rfl, fun d hd => absurd hd (by omega)⟩⟩
  case round =>
    obtain ⟨k, rfl, hk, hrel⟩ := hrel
    by_cases hlt : k < m
    · have hc := HC.out k hlt
      have hle := fr_le B n k
      rcases hrel with ⟨c, rfl, hB⟩ | ⟨rfl, hN⟩
      · have hck := hB.out.1
        have hcc := HC.out c (by omega)
        have hlc := fr_le B n c
        have H1 : Hid (0 < fr B n k → fr B n k < fr B n c → Best B n (k + 1) k) := best_less hB.out
        have H2 : Hid ((0 < fr B n k → fr B n c ≤ fr B n k) → Best B n (k + 1) c) := best_keep hB.out
        generalize fr B n k = x at *
        generalize fr B n c = y at *
        by_cases h0 : 0 < x
        · by_cases hxy : x < y
          · have H3 : Hid (Best B n (k + 1) k) := H1.out h0 hxy
            clear H1 H2
            go_wp2
            go_round
            case rel => exact ⟨k + 1, by go_num, by omega, .inl ⟨k, rfl, H3⟩⟩
            case measure => simp [intOf]; omega
          · have H3 : Hid (Best B n (k + 1) c) := H2.out fun _ => by omega
            clear H1 H2
            go_wp2
            go_round
            case rel => exact ⟨k + 1, by go_num, by omega, .inl ⟨c, rfl, H3⟩⟩
            case measure => simp [intOf]; omega
        · have H3 : Hid (Best B n (k + 1) c) := H2.out fun h => absurd h h0
          clear H1 H2
          go_wp2
          go_round
          case rel => exact ⟨k + 1, by go_num, by omega, .inl ⟨c, rfl, H3⟩⟩
          case measure => simp [intOf]; omega
      · have H1 : Hid (0 < fr B n k → Best B n (k + 1) k) := best_new hN.out
        have H2 : Hid (fr B n k = 0 → ∀ d, d < k + 1 → fr B n d = 0) := none_keep hN.out
        generalize fr B n k = x at *
        by_cases h0 : 0 < x
        · have H3 : Hid (Best B n (k + 1) k) := H1.out h0
          clear H1 H2
          go_wp2
          go_round
          case rel => exact ⟨k + 1, by go_num, by omega, .inl ⟨k, rfl, H3⟩⟩
          case measure => simp [intOf]; omega
        · have H3 : Hid (∀ d, d < k + 1 → fr B n d = 0) := H2.out (by omega)
          clear H1 H2
          go_wp2
          go_round
          case rel => exact ⟨k + 1, by go_num, by omega, .inr ⟨rfl, H3⟩⟩
          case measure => simp [intOf]; omega
    · obtain rfl : k = m := by omega
      rcases hrel with ⟨c, rfl, hB⟩ | ⟨rfl, hN⟩
      · go_wp2
        go_ret
        exact ⟨.inl ⟨c, rfl, hB.out⟩, rfl⟩
      · go_wp2
        go_ret
        exact ⟨.inr ⟨rfl, hN.out⟩, rfl⟩

set_option maxRecDepth 20000 in
set_option maxHeartbeats 1000000 in
theorem take_any (w : World) (q p b f cap n : Nat) (B : Nat → Bool) (h : BoardAt w q p b f cap n B) (ht : Steps w) :
    Calls Tryd.prog 11 #[.pointer (some ⟨q, 0, none⟩)] w fun x w' => (∃ s : Nat, x = .returned (.tuple #[.int .i64 (s : Nat), .int .i64 0]) ∧ IsTake B n s ∧ BoardAt w' q p b f cap n (putB B s 1 true) ∧ Only2 b f w w') ∨ (x = .returned (.tuple #[.int .i64 0, .int .i64 12]) ∧ (∀ i, i < n → B i = true) ∧ w' = w) := by
  have hp := h.p_cell
  have hn := h.row.small
  have H : Hid (BoardAt w q p b f cap n B) := h
  have HT : Hid (Steps w) := ht
  have HF : Hid (Calls Tryd.prog 26 #[.pointer (some ⟨q, 0, none⟩)] w fun x w' => ((∃ c : Nat, x = .returned (.int .i64 (c : Nat)) ∧ Best B n (wn n) c) ∨ (x = .returned (.int .i64 (-1)) ∧ ∀ d, d < wn n → fr B n d = 0)) ∧ w' = w) := fullest_any w q p b f cap n B h
  clear h ht
  go_enter Tryd.func11, Tryd.ntmps11
  go_wp2_with fail
  refine HF.out.mono ?_
  rintro e w' ⟨⟨c, rfl, hB⟩ | ⟨rfl, hN⟩, rfl⟩
  · obtain ⟨s, hs1, hs2, hs3, hs4, hs5⟩ := fr_first hB.2.1
    have hsc : s / 64 = c := by omega
    have HI : Hid (IsTake B n s) := ⟨hs3, hs4, by rw [hsc]; exact hs5, by rw [hsc]; exact hB.2.2.1, by rw [hsc]; exact hB.2.2.2⟩
    have HS : Hid (∀ i, 64 * c ≤ i → i < s → B i = true) := hs5
    have HS2 : Hid (B s = false) := hs4
    have hcb : c < 2048 := by have := hB.1; have := wn_le n hn; omega
    have HH : Hid (∀ i : Nat, i < n → Calls Tryd.prog 27 #[.pointer (some ⟨p, 0, none⟩), .int .i64 (i : Nat)] w' fun x w2 => x = .returned (.bool (B i)) ∧ w2 = w') := fun i hi => has_any w' p b n B i H.out.row hi
    have HK : Hid (Calls Tryd.prog 24 #[.pointer (some ⟨q, 0, none⟩), .int .i64 (s : Nat), .int .i64 1] w' fun x w2 => x = .returned (.int .i64 0) ∧ BoardAt w2 q p b f cap n (putB B s 1 true) ∧ Only2 b f w' w2) := take_ok w' q p b f cap n B s 1 H.out HT.out (by omega) (fun i h1 h2 => by rw [show i = s by omega]; exact HS2.out)
    clear hB hs4 hs5 hsc HF
    go_wp2
    go_loop [5] (fun sl => ∃ k : Nat, sl = .int .i64 (k : Nat) ∧ 64 * c ≤ k ∧ k ≤ s) (fun sl => s - (intOf sl).toNat)
    case atStart => exact ⟨64 * c, by go_num, Nat.le_refl _, hs1⟩
    case round =>
      obtain ⟨k, rfl, hk1, hk2⟩ := hrel
      go_wp2_with fail
      refine (HH.out k (by omega)).mono ?_
      rintro e w2 ⟨rfl, rfl⟩
      by_cases hks : k < s
      · rw [HS.out k hk1 hks]
        go_wp2
        go_round
        case rel => exact ⟨k + 1, by go_num, by omega, by omega⟩
        case measure => simp [intOf]; omega
      · obtain rfl : k = s := by omega
        rw [HS2.out]
        go_wp2_with fail
        refine HK.out.mono ?_
        rintro e w3 ⟨rfl, h1, h2⟩
        have H1 : Hid (BoardAt w3 q p b f cap n (putB B k 1 true)) := h1
        have H2 : Hid (Only2 b f w2 w3) := h2
        clear h1 h2
        go_wp2
        go_ret2
        exact .inl ⟨k, rfl, HI.out, H1.out, H2.out⟩
  · have HA : Hid (∀ i, i < n → B i = true) := fr_full H.out.row.tail hN
    clear hN
    go_wp2
    go_ret2
    exact .inr ⟨rfl, HA.out, rfl⟩

theorem run_arg (w : World) (q : Nat) (k : Int) (hk : k < 1 ∨ 64 < k) :
    Calls Tryd.prog 13 #[.pointer (some ⟨q, 0, none⟩), .int .i64 k] w fun x w' => x = .returned (.tuple #[.int .i64 0, .int .i64 2]) ∧ w' = w := by
  by_cases h : k < 1
  · go_enter Tryd.func13, Tryd.ntmps13
    go_wp2
    go_ret2
    exact ⟨rfl, rfl⟩
  · have h2 : 64 < k := by omega
    go_enter Tryd.func13, Tryd.ntmps13
    go_wp2
    go_ret2
    exact ⟨rfl, rfl⟩
set_option maxHeartbeats 1000000 in
theorem run_any (w : World) (q p b f cap n : Nat) (B : Nat → Bool) (k : Nat) (h : BoardAt w q p b f cap n B) (ht : Steps w) (hk : 1 ≤ k) (hk2 : k ≤ 64) :
    Calls Tryd.prog 13 #[.pointer (some ⟨q, 0, none⟩), .int .i64 (k : Nat)] w fun x w' => (∃ s : Nat, x = .returned (.tuple #[.int .i64 (s : Nat), .int .i64 0]) ∧ IsRun B n k s ∧ BoardAt w' q p b f cap n (putB B s k true) ∧ Only2 b f w w') ∨ (x = .returned (.tuple #[.int .i64 0, .int .i64 12]) ∧ NoRun B n k ∧ w' = w) := by
  have hp := h.p_cell
  have hn := h.row.small
  have H : Hid (BoardAt w q p b f cap n B) := h
  have HT : Hid (Steps w) := ht
  have HF : Hid (Calls Tryd.prog 28 #[.pointer (some ⟨p, 0, none⟩), .int .i64 (k : Nat)] w fun x w' => ((∃ a : Nat, x = .returned (.int .i64 (a : Nat)) ∧ a + k ≤ n ∧ (∀ i, a ≤ i → i < a + k → B i = false) ∧ ∀ y, y < a → Hit B k y) ∨ (x = .returned (.int .i64 (-1)) ∧ ∀ y, y + k ≤ n → Hit B k y)) ∧ w' = w) := find_any w p b n B k h.row ht hk (by omega)
  clear h ht
  go_enter Tryd.func13, Tryd.ntmps13
  go_wp2_with fail
  refine HF.out.mono ?_
  rintro e w' ⟨⟨a, rfl, h1, h2, h3⟩ | ⟨rfl, h1⟩, rfl⟩
  · have HI : Hid (IsRun B n k a) := ⟨h1, h2, h3⟩
    have HK : Hid (Calls Tryd.prog 24 #[.pointer (some ⟨q, 0, none⟩), .int .i64 (a : Nat), .int .i64 (k : Nat)] w' fun x w2 => x = .returned (.int .i64 0) ∧ BoardAt w2 q p b f cap n (putB B a k true) ∧ Only2 b f w' w2) := take_ok w' q p b f cap n B a k H.out HT.out h1 h2
    clear h2 h3 HF
    go_wp2_with fail
    refine HK.out.mono ?_
    rintro e w3 ⟨rfl, h1, h2⟩
    have H1 : Hid (BoardAt w3 q p b f cap n (putB B a k true)) := h1
    have H2 : Hid (Only2 b f w' w3) := h2
    clear h1 h2
    go_wp2
    go_ret2
    exact .inl ⟨a, rfl, HI.out, H1.out, H2.out⟩
  · have HA : Hid (NoRun B n k) := h1
    clear h1
    go_wp2
    go_ret2
    exact .inr ⟨rfl, HA.out, rfl⟩
end Go.Proofs.YthpodknhidgedaaDoor
