/- The law SlotsOnce over the contracts of package slots. -/
import Derived.Test.YthpodknhidgedaaDoorLawFew9
import Derived.Test.YthpodknhidgedaaDoorRef8
import Derived.Deep.WholeRow
namespace Go.Proofs.YthpodknhidgedaaDoor
open Go.RowKit
set_option linter.unusedVariables false

theorem Tryd.zeroSeen (w : World) : (zeroValue 50).run Tryd.prog w = .ok (.agg (boolL noneB 200).toArray) w := (zero_of_info (n := 200) (by kernel_rfl)).1 w
theorem row_at {k : IntKind} {w : World} {a : Option Addr} {len cap : Nat} {zs : List Int} (h : IsRow k w a len cap zs) {j : Nat} (hj : j < len) : ∃ b off, a = some ⟨b, off, none⟩ ∧ b < w.heap.size ∧ w.cell? ⟨b, off + j, none⟩ = some (.int k (zs[j]?.getD 0)) ∧ (Lit.int k (zs[j]?.getD 0)).wf = true := by
  rcases h with ⟨rfl, rfl, rfl, rfl⟩ | ⟨x, rfl, hl, hm, hz, hc, hw⟩
  · omega
  · obtain ⟨b, off, rfl, hc'⟩ := ints_at hc (by omega)
    have hj' : j < zs.length := by omega
    have h1 := hc' j hj'
    rw [List.getD_eq_getElem?_getD] at h1
    refine ⟨b, off, rfl, cell_lt h1, h1, ?_⟩
    rw [List.getElem?_eq_getElem hj', Option.getD_some]
    exact hw _ (List.getElem_mem hj')
theorem boolL_put (B : Nat → Bool) (n a : Nat) (c : Bool) (ha : a < n) : (boolL B n).toArray.setIfInBounds a (Value.bool c) = (boolL (putB B a 1 c) n).toArray := by
  apply Array.ext_getElem?
  intro i
  rw [Array.getElem?_setIfInBounds]
  by_cases hi : a = i
  · subst hi
    rw [if_pos rfl, if_pos (by simp [boolL_length, ha]), boolL_at _ _ _ ha, putB_at]
  · rw [if_neg hi]
    by_cases hl : i < n
    · rw [boolL_at _ _ _ hl, boolL_at _ _ _ hl, putB_off c (fun e => hi e.symm)]
    · rw [Array.getElem?_eq_none (by simp [boolL_length]; omega), Array.getElem?_eq_none (by simp [boolL_length]; omega)]
/-- Which numbers were seen. -/
def SeenAt (w : World) (g : Nat) (B : Nat → Bool) : Prop := w.heap[g]? = some (.cells (boolL B 200).toArray 50 (0, 0))
theorem SeenAt.cell {w : World} {g : Nat} {B : Nat → Bool} (h : SeenAt w g B) (i : Nat) (hi : i < 200) : w.cell? ⟨g, i, none⟩ = some (.bool (B i)) := by
  rw [cell_of_row w g _ _ _ _ h, boolL_at B _ i hi]
theorem SeenAt.cold {w : World} {g : Nat} {B : Nat → Bool} (h : SeenAt w g B) (i : Nat) : w.frozen? ⟨g, i, none⟩ = false := by
  have h' : w.heap[g]? = some (.cells (boolL B 200).toArray 50 (0, 0)) := h
  simp [World.frozen?, h']
theorem SeenAt.put {w : World} {g : Nat} {B : Nat → Bool} (h : SeenAt w g B) (i : Nat) (hi : i < 200) : SeenAt (w.setCell ⟨g, i, none⟩ (.bool true)) g (putB B i 1 true) := by
  have := heap_set_row h i (.bool true)
  rwa [boolL_put B 200 i true hi] at this
theorem SeenAt.only2 {w w' : World} {g q p b f cap m : Nat} {B C : Nat → Bool} (h : SeenAt w g B) (hb : BoardAt w q p b f cap m C) (ho : Only2 b f w w') : SeenAt w' g B := by
  obtain ⟨cur, h2, h3⟩ := hb.nums
  exact (ho.heap (lt_of_heap h) (ne_type h hb.row.body (by decide)) (ne_type h h2 (by decide))).trans h
theorem SeenAt.board {w : World} {g q p b f cap m : Nat} {B C : Nat → Bool} (h : SeenAt w g B) (hb : BoardAt w q p b f cap m C) (i : Nat) (u : Value) : BoardAt (w.setCell ⟨g, i, none⟩ u) q p b f cap m C := by
  obtain ⟨cur, h2, h3⟩ := hb.nums
  exact hb.same (Below.heap_setCell w _ _ q (ne_type hb.head h (by decide))) (Below.heap_setCell w _ _ p (ne_type hb.row.head h (by decide))) (Below.heap_setCell w _ _ b (ne_type hb.row.body h (by decide))) (Below.heap_setCell w _ _ f (ne_type h2 h (by decide)))
theorem all_set {B : Nat → Bool} {m : Nat} (h : cnt B 0 m = m) : ∀ i, i < m → B i = true := fun i hi => by
  cases hB : B i
  · have h1 := cnt_put_in (o := 0) (k := m) hB (Nat.zero_le _) (by omega)
    have h2 := cnt_le (putB B i 1 true) 0 m
    omega
  · rfl
structure OnceI (w : World) (q p b f cap m g c : Nat) (B : Nat → Bool) (wr : World) : Prop where
  board : BoardAt wr q p b f cap m B
  seen : SeenAt wr g B
  num : cnt B 0 m = c
  bel : Below w.heap.size w wr
theorem putB_before {B : Nat → Bool} {s j i : Nat} (h : s + j ≤ i) : putB B s j true i = B i := by unfold putB; rw [if_neg (by omega)]
set_option maxRecDepth 20000 in
set_option maxHeartbeats 2000000 in
theorem slotsOnce_walk (n : Int) (a1 : Option Addr) (len1 cap1 : Nat) (z1 : List Int) (w : World) (ht : Steps w) (f0 : (Lit.int .i64 n).wf = true) (f1 : IsRow .u8 w a1 len1 cap1 z1) :
    Calls Tryd.prog 4 #[.int .i64 n, .slice a1 len1 cap1] w fun e w' => e = .returned (.bool true) ∧ Below w.heap.size w w' := by
  have hn : I64 n := by simpa [Lit.wf, IntKind.min, IntKind.max, IntKind.signed, IntKind.bits, I64] using f0
  have HT : Hid (Steps w) := ht
  have H0 : Hid (0 < w.heap.size) := ht.pos
  have hlen : len1 ≤ 9223372036854775807 := by
    rcases f1 with ⟨_, rfl, _⟩ | ⟨x, _, h1, h2, _⟩
    · decide
    · unfold maxLen at h2; omega
  have HAw : Hid (Calls Tryd.prog 7 #[] w fun x w' => x = .returned (.bool true) ∧ Below w.heap.size w w') := awake_any w ht
  by_cases hl : 20 < len1
  · clear f1 hn f0
    go_enter Tryd.func4, Tryd.ntmps4
    go_wp2_with fail
    refine HAw.out.mono ?_
    rintro e w1 ⟨rfl, hB⟩
    have HB : Hid (Below w.heap.size w w1) := hB
    have HAw2 : Hid (Calls Tryd.prog 7 #[] w1 fun x w' => x = .returned (.bool true) ∧ Below w1.heap.size w1 w') := awake_any w1 (HT.out.below hB)
    clear hB
    go_wp2_with fail
    refine HAw2.out.mono ?_
    rintro e w2 ⟨rfl, hB2⟩
    have HB2 : Hid (Below w.heap.size w w2) := HB.out.trans (hB2.mono HB.out.size)
    clear hB2
    go_wp2
    go_ret
    exact ⟨rfl, HB2.out⟩
  · obtain ⟨r, hr, hr5⟩ := mod_any n 200 (by decide) (by decide) hn
    obtain ⟨m, hm⟩ : ∃ m, m = 1 + r := ⟨_, rfl⟩
    have HM : Hid (wrap64 (1 + (wrap64 (n.tmod 200 + 200)).tmod 200) = (m : Int)) := by
      unfold Hid
      have e1 : (wrap64 (n.tmod 200 + 200)).tmod 200 = (r : Int) := hr
      rw [e1, show (1 : Int) + (r : Int) = ((m : Nat) : Int) by omega, wrap_nat m (by omega)]
    have hm1 : 1 ≤ m ∧ m ≤ 200 := by omega
    have HR : Hid (IsRow .u8 w a1 len1 cap1 z1) := f1
    have hzS := Tryd.zeroSeen
    have HSA : Hid (∀ W : World, SeenAt (W.alloc (.cells (boolL noneB 200).toArray 50)) W.heap.size noneB) := fun W => heap_alloc_new W _
    obtain ⟨Z, hZ⟩ : ∃ Z, Z = (boolL noneB 200).toArray := ⟨_, rfl⟩
    rw [← hZ] at hzS HSA
    clear hr hr5 hm f0 f1 ht hn hZ
    go_enter Tryd.func4, Tryd.ntmps4
    go_wp2_with fail
    refine HAw.out.mono ?_
    rintro e w1 ⟨rfl, hB⟩
    have HB : Hid (Below w.heap.size w w1) := hB
    have HN : Hid (Calls Tryd.prog 8 #[.int .i64 (m : Nat), .slice none 0 0] w1 fun x w' => ∃ q p b f cap, x = .returned (.tuple #[.pointer (some ⟨q, 0, none⟩), .int .i64 0]) ∧ w1.heap.size ≤ b ∧ w1.heap.size ≤ f ∧ BoardAt w' q p b f cap m noneB ∧ Below w1.heap.size w1 w') := newB_empty w1 m hm1.1 (by omega) (HT.out.below hB)
    clear hB
    go_wp2_with fail
    rw [HM.out]
    refine HN.out.mono ?_
    rintro e w2 ⟨q, p, b, f, cap, rfl, hb, hf, hBd, hB⟩
    have HP : Hid (w.heap.size ≤ b ∧ w.heap.size ≤ f) := ⟨Nat.le_trans HB.out.size hb, Nat.le_trans HB.out.size hf⟩
    have HB2 : Hid (Below w.heap.size w w2) := HB.out.trans (hB.mono HB.out.size)
    have HI : Hid (OnceI w q p b f cap m w2.heap.size 0 noneB (w2.alloc (.cells Z 50))) := ⟨hBd.below ((Below.refl _ _).alloc (Nat.le_refl _) _), HSA.out w2, cnt_none fun _ _ => rfl, HB2.out.alloc HB2.out.size _⟩
    have HG : Hid (w.heap.size ≤ w2.heap.size) := HB2.out.size
    clear hBd hB hb hf HB HN HAw HM HB2 HSA
    go_wp2
    obtain ⟨g, hg⟩ : ∃ g, g = w2.heap.size := ⟨_, rfl⟩
    rw [← hg] at HI HG ⊢
    clear hg
    go_loopw [9, 10] (fun tk i wr => ∃ (j c : Nat) (B : Nat → Bool), i = .int .i64 (j : Nat) ∧ tk = .int .i64 (c : Nat) ∧ c ≤ m ∧ j ≤ len1 ∧ Hid (OnceI w q p b f cap m g c B wr)) (fun _ i _ => len1 - (intOf i).toNat)
    case atStart => exact ⟨0, 0, noneB, rfl, rfl, Nat.zero_le _, Nat.zero_le _, HI⟩
    case round =>
      obtain ⟨j, c, B, rfl, rfl, hcm, hj, hI⟩ := hrel
      have HTr : Hid (Steps wr) := HT.out.kept hI.out.bel H0.out
      by_cases hlt : j < len1
      · obtain ⟨gg, off, rfl, hgl, hcell, hwf⟩ := row_at HR.out hlt
        have hcell2 := (hI.out.bel.cell (p := ⟨gg, off + j, none⟩) hgl).trans hcell
        have hu : 0 ≤ z1[j]?.getD 0 ∧ z1[j]?.getD 0 ≤ 255 := by simpa [Lit.wf, IntKind.min, IntKind.max, IntKind.signed, IntKind.bits] using hwf
        obtain ⟨u, hu2⟩ : ∃ u : Nat, z1[j]?.getD 0 = (u : Int) := ⟨_, (Int.toNat_of_nonneg hu.1).symm⟩
        rw [hu2] at hcell2 hu
        clear hcell hwf hgl hu2
        have hmod : ((u : Nat) : Int).tmod 64 = ((u % 64 : Nat) : Int) := Int.ofNat_tmod u 64
        have hk : u % 64 < 64 := Nat.mod_lt _ (by decide)
        generalize u % 64 = k0 at *
        obtain ⟨k, hkk⟩ : ∃ k, 1 + k0 = k := ⟨_, rfl⟩
        have hk1 : (1 : Int) + (k0 : Nat) = (k : Nat) := by omega
        have hkb : 1 ≤ k ∧ k ≤ 64 := by omega
        have HRn : Hid (Calls Tryd.prog 13 #[.pointer (some ⟨q, 0, none⟩), .int .i64 (k : Nat)] wr fun x w' => (∃ s : Nat, x = .returned (.tuple #[.int .i64 (s : Nat), .int .i64 0]) ∧ IsRun B m k s ∧ BoardAt w' q p b f cap m (putB B s k true) ∧ Only2 b f wr w') ∨ (x = .returned (.tuple #[.int .i64 0, .int .i64 12]) ∧ NoRun B m k ∧ w' = wr)) := run_any wr q p b f cap m B k hI.out.board HTr.out hkb.1 hkb.2
        clear hkk hk
        go_wp2_with fail
        refine HRn.out.mono ?_
        rintro e w5 (⟨s, rfl, h1, h2, h3⟩ | ⟨rfl, h1, rfl⟩)
        · have HFR : Hid (∀ i, s ≤ i → i < s + k → B i = false) := h1.free
          have hsk := h1.le
          have HBD : Hid (BoardAt w5 q p b f cap m (putB B s k true)) := h2
          have HSE : Hid (SeenAt w5 g (putB B s 0 true)) := by
            unfold Hid
            rw [putB_zero]; exact hI.out.seen.only2 hI.out.board h3
          have HBE : Hid (Below w.heap.size w w5) := hI.out.bel.trans (h3.below HP.out.1 HP.out.2 hI.out.bel.size)
          have HCN : Hid (cnt (putB B s k true) 0 m = c + k) := by unfold Hid; rw [cnt_set hsk h1.free, hI.out.num]
          have hck : c + k ≤ m := by have h5 := HCN.out; have h6 := cnt_le (putB B s k true) 0 m; omega
          clear h1 h2 h3 hI HRn
          go_wp2_with fail
          go_loopw [9, 14] (fun tk i wx => ∃ y : Nat, i = .int .i64 ((s + y : Nat) : Int) ∧ tk = .int .i64 ((c + y : Nat) : Int) ∧ y ≤ k ∧ Hid (BoardAt wx q p b f cap m (putB B s k true)) ∧ Hid (SeenAt wx g (putB B s y true)) ∧ Hid (Below w.heap.size w wx)) (fun _ i _ => s + k - (intOf i).toNat)
          case atStart => exact ⟨0, by go_num, by go_num, Nat.zero_le _, HBD, HSE, HBE⟩
          case round =>
            obtain ⟨y, rfl, rfl, hyk, hB6, hS6, hE6⟩ := hrel
            by_cases hyl : y < k
            · have hx200 : s + y < 200 := by omega
              have hcs := hS6.out.cell (s + y) hx200
              rw [putB_before (Nat.le_refl _), HFR.out (s + y) (by omega) (by omega)] at hcs
              have hcf := hS6.out.cold (s + y)
              have HB7 : Hid (∀ u, BoardAt (wr.setCell ⟨g, s + y, none⟩ u) q p b f cap m (putB B s k true)) := fun u => hS6.out.board hB6.out _ u
              have HS7 : Hid (SeenAt (wr.setCell ⟨g, s + y, none⟩ (.bool true)) g (putB B s (y + 1) true)) := by rw [← putB_more]; exact hS6.out.put _ hx200
              have HE7 : Hid (∀ u, Below w.heap.size w (wr.setCell ⟨g, s + y, none⟩ u)) := fun u => belowOut hE6.out HG.out _ u
              have hx1 : s + y < m := by omega
              have hx2 : ((s + y : Nat) : Int) < (s : Nat) + (k : Nat) := by omega
              have HX : Hid (∀ x, s + y = x → ((x : Nat) : Int) + 1 = ((s + (y + 1) : Nat) : Int)) := fun x hx => by omega
              generalize hx : s + y = x at *
              clear hx
              go_wp2
              go_roundw
              case rel => exact ⟨y + 1, by (rw [← HX.out _ rfl]) <;> go_num, by go_num, by omega, HB7.out _, HS7, HE7.out _⟩
              case measure => simp [intOf]; omega
            · obtain rfl : y = k := by omega
              have HI8 : Hid (OnceI w q p b f cap m g (c + y) (putB B s y true) wr) := ⟨hB6.out, hS6.out, HCN.out, hE6.out⟩
              go_wp2
              go_roundw
              case rel => exact ⟨j + 1, c + y, _, by go_num, by go_num, by omega, by omega, HI8⟩
              case measure => simp [intOf]; omega
        · clear h1 HRn
          go_wp2
          go_roundw
          case rel => exact ⟨j + 1, c, B, by go_num, rfl, hcm, by omega, hI⟩
          case measure => simp [intOf]; omega
      · have hdj : (j < len1) = False := eq_false (by omega)
        clear HTr hlt hj
        go_wp2_with fail
        go_loopw [9] (fun tk wx => ∃ (c : Nat) (B : Nat → Bool), tk = .int .i64 (c : Nat) ∧ c ≤ m ∧ Hid (OnceI w q p b f cap m g c B wx)) (fun tk _ => m - (intOf tk).toNat)
        case atStart => exact ⟨c, B, rfl, hcm, hI⟩
        case round =>
          obtain ⟨c, B, rfl, hcm, hI⟩ := hrel
          have HTr : Hid (Steps wr) := HT.out.kept hI.out.bel H0.out
          have HTk : Hid (Calls Tryd.prog 11 #[.pointer (some ⟨q, 0, none⟩)] wr fun x w' => (∃ s : Nat, x = .returned (.tuple #[.int .i64 (s : Nat), .int .i64 0]) ∧ IsTake B m s ∧ BoardAt w' q p b f cap m (putB B s 1 true) ∧ Only2 b f wr w') ∨ (x = .returned (.tuple #[.int .i64 0, .int .i64 12]) ∧ (∀ i, i < m → B i = true) ∧ w' = wr)) := take_any wr q p b f cap m B hI.out.board HTr.out
          by_cases hlt : c < m
          · have HTk2 : Hid (Calls Tryd.prog 11 #[.pointer (some ⟨q, 0, none⟩)] wr fun x w' => ∃ s : Nat, x = .returned (.tuple #[.int .i64 (s : Nat), .int .i64 0]) ∧ s < m ∧ B s = false ∧ BoardAt w' q p b f cap m (putB B s 1 true) ∧ SeenAt w' g B ∧ cnt (putB B s 1 true) 0 m = c + 1 ∧ Below w.heap.size w w') := HTk.out.mono fun x w' hx => by
              rcases hx with ⟨s, rfl, h1, h2, h3⟩ | ⟨rfl, h1, rfl⟩
              · have hs := h1.lt
                exact ⟨s, rfl, hs, h1.free, h2, hI.out.seen.only2 hI.out.board h3, by rw [cnt_put_in h1.free (Nat.zero_le _) (by omega), hI.out.num], hI.out.bel.trans (h3.below HP.out.1 HP.out.2 hI.out.bel.size)⟩
              · have h5 := cnt_full h1
                have h6 := hI.out.num
                omega
            clear HTk
            go_wp2_with fail
            refine HTk2.out.mono ?_
            rintro e w5 ⟨s, rfl, hsm, hsf, k1, k2, k3, k4⟩
            have hs200 : s < 200 := by omega
            have hcs := SeenAt.cell k2 s hs200
            rw [hsf] at hcs
            have hcf := SeenAt.cold k2 s
            have HI7 : Hid (OnceI w q p b f cap m g (c + 1) (putB B s 1 true) (w5.setCell ⟨g, s, none⟩ (.bool true))) := ⟨SeenAt.board k2 k1 _ _, SeenAt.put k2 s hs200, k3, belowOut k4 HG.out _ _⟩
            clear k1 k2 k3 k4 hsf HTk2 hI
            go_wp2
            go_roundw
            case rel => exact ⟨c + 1, _, by go_num, by omega, HI7⟩
            case measure => simp [intOf]; omega
          · obtain rfl : c = m := by omega
            have HALL : Hid (∀ i, i < c → B i = true) := all_set hI.out.num
            have HTk2 : Hid (Calls Tryd.prog 11 #[.pointer (some ⟨q, 0, none⟩)] wr fun x w' => x = .returned (.tuple #[.int .i64 0, .int .i64 12]) ∧ w' = wr) := HTk.out.mono fun x w' hx => by
              rcases hx with ⟨s, rfl, h1, h2, h3⟩ | ⟨rfl, h1, rfl⟩
              · have := HALL.out s h1.lt
                rw [h1.free] at this; cases this
              · exact ⟨rfl, rfl⟩
            have HRn : Hid (Calls Tryd.prog 13 #[.pointer (some ⟨q, 0, none⟩), .int .i64 1] wr fun x w' => x = .returned (.tuple #[.int .i64 0, .int .i64 12]) ∧ w' = wr) := (run_any wr q p b f cap c B 1 hI.out.board HTr.out (by decide) (by decide)).mono fun x w' hx => by
              rcases hx with ⟨s, rfl, h1, h2, h3⟩ | ⟨rfl, h1, rfl⟩
              · have h5 := h1.le
                have := HALL.out s (by omega)
                rw [h1.free s (Nat.le_refl _) (by omega)] at this; cases this
              · exact ⟨rfl, rfl⟩
            have HF : Hid (Calls Tryd.prog 18 #[.pointer (some ⟨q, 0, none⟩)] wr fun x w' => x = .returned (.int .i64 0) ∧ ∃ y, w' = wr.drewN y) := by
              have := free_any wr q p b f cap c B hI.out.board
              rwa [hI.out.num, Nat.sub_self] at this
            have HBE : Hid (Below w.heap.size w wr) := hI.out.bel
            clear HTk hI hlt
            go_wp2_with fail
            refine HTk2.out.mono ?_
            rintro e w5 ⟨rfl, rfl⟩
            go_wp2_with fail
            refine HRn.out.mono ?_
            rintro e w6 ⟨rfl, rfl⟩
            go_wp2_with fail
            refine HF.out.mono ?_
            rintro e w7 ⟨rfl, y, rfl⟩
            go_wp2
            go_ret
            exact ⟨rfl, HBE.out.trans ((below_drewN _ y).mono HBE.out.size)⟩
end Go.Proofs.YthpodknhidgedaaDoor
