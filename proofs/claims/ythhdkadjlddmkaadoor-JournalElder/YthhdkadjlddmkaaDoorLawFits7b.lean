/- The law JournalFits over the bundle (written by mk_fits7.py). -/
import Derived.Test.YthhdkadjlddmkaaDoorLawFits7
namespace Go.Proofs.YthhdkadjlddmkaaDoor
open Go.RowKit
set_option linter.unusedVariables false

/-- A slice of 16-bit numbers that came in. -/
def U16s (w : World) (a : Option Addr) (len : Nat) (zs : List Nat) : Prop :=
  zs.length = len ∧ (∀ z ∈ zs, z < 65536) ∧ (len = 0 ∨ ∃ b off, a = some ⟨b, off, none⟩ ∧ b < w.heap.size ∧ ∀ j, j < len → w.cell? ⟨b, off + j, none⟩ = some (.int .u16 (zs[j]?.getD 0 : Nat)))
theorem U16s.ofRow {w : World} {a : Option Addr} {len cap : Nat} {xs : List Int} (h : IsRow .u16 w a len cap xs) : U16s w a len ((xs.take len).map Int.toNat) ∧ len ≤ cap ∧ cap ≤ maxLen := by
  rcases h with ⟨rfl, rfl, rfl, rfl⟩ | ⟨x, rfl, hl, hm, hz, hc, hw⟩
  · exact ⟨⟨rfl, by simp, .inl rfl⟩, Nat.le_refl _, by simp⟩
  · have hlen : ((xs.take len).map Int.toNat).length = len := by rw [List.length_map, List.length_take]; omega
    have hwf : ∀ z ∈ xs, 0 ≤ z ∧ z ≤ 65535 := fun z hz' => by
      have := hw z hz'
      simpa [Lit.wf, IntKind.min, IntKind.max, IntKind.signed, IntKind.bits] using this
    refine ⟨⟨hlen, ?_, ?_⟩, by omega, hm⟩
    · intro z hz'
      rw [List.mem_map] at hz'
      obtain ⟨y, hy, rfl⟩ := hz'
      have := hwf y (List.mem_of_mem_take hy)
      omega
    · by_cases h0 : len = 0
      · exact .inl h0
      · right
        obtain ⟨b, off, rfl, hc'⟩ := ints_at hc (by omega)
        refine ⟨b, off, rfl, cell_lt (hc' 0 (by omega)), fun j hj => ?_⟩
        rw [hc' j (by omega)]
        have hj' : j < xs.length := by omega
        have := hwf _ (List.getElem_mem hj')
        simp [List.getD, List.getElem?_map, List.getElem?_take_of_lt hj, List.getElem?_eq_getElem hj']
        omega
theorem U16s.at {w : World} {a : Option Addr} {len : Nat} {zs : List Nat} (h : U16s w a len zs) {j : Nat} (hj : j < len) : ∃ b off z, a = some ⟨b, off, none⟩ ∧ b < w.heap.size ∧ z < 65536 ∧ zs[j]?.getD 0 = z ∧ w.cell? ⟨b, off + j, none⟩ = some (.int .u16 (z : Nat)) := by
  rcases h.2.2 with h0 | ⟨b, off, h1, h2, h3⟩
  · omega
  · refine ⟨b, off, _, h1, h2, ?_, rfl, h3 j hj⟩
    rw [List.getElem?_eq_getElem (by rw [h.1]; exact hj)]
    exact h.2.1 _ (List.getElem_mem _)
theorem fitsB_no {J : JS} : fitsB J 0 = false := decide_eq_false fun h => by
  have : sectorsN 0 = 0 := by decide
  rw [this] at h; omega
theorem fitsB_eq {J : JS} {m : Nat} (h1 : 1 ≤ m) (h2 : m ≤ 65000) : fitsB J (m : Nat) = decide (partsN m + 1 ≤ J.n - J.used) := by
  unfold fitsB
  rw [sectorsN_nat m h1 h2, decide_eq_decide]
  omega
/-- What the loop of the laws without crashes holds. -/
structure Goes (S : St) (J : JS) (start : Nat) (sure : List (List Nat)) (j : Nat) : Prop where
  inv : JInv S J start sure []
  dead : J.dead = false
  dirty : J.dirty = false
  left : S.left = -1
  wr : S.written ≤ 5000 * j
theorem Goes.waits {S : St} {J : JS} {start j : Nat} {sure : List (List Nat)} (h : Goes S J start sure j) (hj : j ≤ 100) : S.waits.length + 5000 ≤ 1000000000 ∧ S.written + 5000 ≤ 1000000000 := by
  have := h.wr
  rw [(h.inv.alive h.dead).1]
  exact ⟨by decide, by omega⟩
theorem Goes.mono {S : St} {J : JS} {start j j' : Nat} {sure : List (List Nat)} (h : Goes S J start sure j) (hj : j ≤ j') : Goes S J start sure j' := ⟨h.inv, h.dead, h.dirty, h.left, by have := h.wr; omega⟩
theorem Goes.on {S : St} {J : JS} {start j : Nat} {sure : List (List Nat)} (h : Goes S J start sure j) (zs : List Nat) (hz : (1 ≤ zs.length ∧ zs.length ≤ 65000) ∧ ∀ z ∈ zs, z < 256) (hr : partsN zs.length + 1 ≤ J.n - J.used) :
    ∃ S', appendR S J zs = (S', J.after (partsN zs.length + 1), 0) ∧ Goes S' (J.after (partsN zs.length + 1)) start (sure ++ [zs]) (j + 1) := by
  have hl : S.left < 0 := by rw [h.left]; decide
  have hon := appendD_on (J := J) (b := J.bytes zs) (P := partsN zs.length) hl
  have hst := appendD_stops S J (J.bytes zs) (partsN zs.length) (h.inv.alive h.dead).1
  have hn := h.inv.ring.n2
  refine ⟨_, appendR_ok h.dead h.dirty hz.1 hr hl, ⟨(h.inv.append h.dead h.dirty zs hz hr).1 hon.1, h.dead, h.dirty, hon.2.trans h.left, ?_⟩⟩
  have h1 := hst.written
  have h2 := h.wr
  omega
theorem Goes.new (n fr m e start : Nat) (h1 : 4 ≤ m) (h2 : m ≤ 4096) (h3 : fr + m ≤ n) (h4 : 1 ≤ e) (h5 : e ≤ 2147483648) (h6 : start < m) : Goes (freshSt n) (JS.fresh fr m e start) start [] 0 := ⟨JInv.new n fr m e start h1 h2 h3 h4 h5 h6, rfl, rfl, rfl, Nat.le_refl _⟩

/-- An append of so many noughts, just made. -/
theorem append_made (B : JOps) {K : Nat → Prop} {w wr : World} {p : Nat} {L : Loc} {S : St} {J : JS} {start j : Nat} {sure : List (List Nat)} (hJ : IsJ B.Head K wr p L S J) (hG : Goes S J start sure j) (hj : j ≤ 100) (hK : Kept K w wr) (hT : StepsK K w) (m : Nat) (hm : m ≤ 100000) (n : Nat) :
    Calls Tryd.prog 10 #[.pointer (some ⟨p, 0, none⟩), .slice (some ⟨wr.heap.size, 0, none⟩) m m] ((wr.drewN n).alloc (.cells (u8s (zl m)).toArray 5)) fun x w' => ∃ wv, x = .returned (.int .i64 ((appendR S J (zl m)).2.2 : Nat)) ∧ IsJ B.Head K w' p { L with wv := wv } (appendR S J (zl m)).1 (appendR S J (zl m)).2.1 ∧ Kept K w w' := by
  have hJ' : IsJ B.Head K (wr.drewN n) p L S J := hJ.below (below_drewN7 wr n)
  have hlt : ∀ k, K k → k < (wr.drewN n).heap.size := fun k hk => hJ'.2.1.kl k (.inl hk)
  have hKn : Kept K w (wr.drewN n) := hK.trans (Kept.ofBelow (below_drewN7 wr n) hlt)
  have hKm : Kept K w ((wr.drewN n).alloc (.cells (u8s (zl m)).toArray 5)) := hKn.alloc hlt _
  refine (B.append (fun k => K k ∨ k = (wr.drewN n).heap.size) _ p L S J _ (zl m) (hJ'.with _) hG.inv.ok (octs_made (wr.drewN n) m hm _) (by rintro x n c e _; cases e; exact .inr rfl) (hG.waits hj).1 (hG.waits hj).2 ((hT.kept hKm).more fun k hk => .inl hk)).mono ?_
  rintro x w' ⟨wv, h1, h2, h3⟩
  exact ⟨wv, h1, h2.less fun k hk => .inl hk, hKm.trans (h3.mono fun k hk => .inl hk)⟩
theorem uf_sum {u fr k : Nat} (h1 : u ≤ k) (h2 : fr = k - u) : ((u : Nat) : Int) + (fr : Nat) = (k : Nat) := by omega
theorem uf_sum2 {u fr k q : Nat} (h1 : u ≤ k) (h2 : fr = k - u) (h3 : q ≤ fr) : (((u + q : Nat)) : Int) + ((fr - q : Nat) : Int) = (k : Nat) ∧ k - (u + q) = fr - q := by omega
theorem wrap_small {x : Int} (h1 : -100000 ≤ x) (h2 : x ≤ 100000) : wrap64 x = x := by unfold wrap64; omega
theorem wrap_k {k : Nat} (h : k ≤ 33) : wrap64 (k : Nat) = (k : Nat) := wrap_small (by omega) (by omega)
theorem pick30 (a : Int) : ∃ (r q : Int) (k : Nat), a.tmod 30 = r ∧ (r + 30).tmod 30 = q ∧ 4 + q = (k : Nat) ∧ wrap64 (r + 30) = r + 30 ∧ wrap64 (k : Nat) = (k : Nat) ∧ wrap64 r = r ∧ wrap64 q = q ∧ 4 ≤ k ∧ k ≤ 33 := by
  have h1 : -30 < a.tmod 30 := Int.lt_tmod_of_pos a (by decide)
  have h2 : a.tmod 30 < 30 := Int.tmod_lt_of_pos a (by decide)
  generalize a.tmod 30 = r at h1 h2
  have h3 : 0 ≤ (r + 30).tmod 30 := Int.tmod_nonneg _ (by omega)
  have h4 : (r + 30).tmod 30 < 30 := Int.tmod_lt_of_pos _ (by decide)
  generalize hq : (r + 30).tmod 30 = q at h3 h4
  refine ⟨r, q, (4 + q).toNat, rfl, hq, ?_, wrap_small ?_ ?_, wrap_small ?_ ?_, wrap_small ?_ ?_, wrap_small ?_ ?_, ?_, ?_⟩
  all_goals (clear hq; omega)
theorem pick1000 (z : Nat) (hz : z < 65536) : ∃ m : Nat, (z : Int).tmod 1000 = (m : Nat) ∧ wrap64 (z : Nat) = (z : Nat) ∧ wrap64 (m : Nat) = (m : Nat) ∧ m = z % 1000 ∧ m < 1000 := by
  refine ⟨z % 1000, ?_, wrap_small (by omega) (by omega), wrap_small (by omega) (by omega), rfl, Nat.mod_lt _ (by decide)⟩
  rw [Int.tmod_eq_emod_of_nonneg (by omega)]; omega

set_option maxRecDepth 20000 in
set_option maxHeartbeats 1000000 in
theorem journalFits_of (B : JOps) (a0 : Int) (a1 : Option Addr) (len1 cap1 : Nat) (z1 : List Int) (w : World) (ht : Steps w) (f0 : (Lit.int .i64 a0).wf = true) (f1 : IsRow .u16 w a1 len1 cap1 z1) :
    Calls Tryd.prog 5 #[.int .i64 a0, .slice a1 len1 cap1] w fun x w' => x = .returned (.bool true) ∧ Below w.heap.size w w' := by
  have hn0 : -9223372036854775808 ≤ a0 ∧ a0 ≤ 9223372036854775807 := by simpa [Lit.wf, IntKind.min, IntKind.max, IntKind.signed, IntKind.bits] using f0
  obtain ⟨hU, hcap, hcm⟩ := U16s.ofRow f1
  obtain ⟨zs, hzs⟩ : ∃ zs, zs = (z1.take len1).map Int.toNat := ⟨_, rfl⟩
  rw [← hzs] at hU
  have HU : Hid (U16s w a1 len1 zs) := hU
  have HT : Hid (Steps w) := ht
  have HAW : Hid (∀ W, Below w.heap.size w W → Calls Tryd.prog 7 #[] W fun e w' => e = .returned (.bool true) ∧ Below W.heap.size W w') := fun W hW => awake7 B W (HT.out.below hW)
  have hmax : (len1 : Int) ≤ 9223372036854775807 := by unfold maxLen at hcm; omega
  obtain ⟨r, q, k, hr, hq, hk, hw1, hw2, hw3, hw4, hk1⟩ := pick30 a0
  have HK1 : Hid (4 ≤ k ∧ k ≤ 33) := hk1
  have HNEW : Hid (∀ (W : World) (L : Loc), IsDisk (fun i => i < w.heap.size) W L (freshSt k) → Calls Tryd.prog 9 #[.pointer (some ⟨L.b, 0, none⟩), .int .i64 0, .int .i64 (k : Nat), .int .i64 1, .int .i64 0] W fun x w' => ∃ p, x = .returned (.tuple #[.pointer (some ⟨p, 0, none⟩), .int .i64 0]) ∧ IsJ B.Head (fun i => i < w.heap.size) w' p L (freshSt k) (JS.fresh 0 k 1 0) ∧ W.heap.size ≤ p ∧ Below W.heap.size W w') := fun W L hD =>
    B.new _ W L (freshSt k) 0 k 1 0 hD hk1.1 (Nat.le_trans hk1.2 (by decide)) (Nat.le_of_eq (Nat.zero_add k)) (by decide) (by decide) (Nat.lt_of_lt_of_le (by decide) hk1.1)
  clear ht f0 f1 hU hn0 hk1 hzs
  by_cases hbig : (30 : Int) < (len1 : Nat)
  · go_enter Tryd.func5, Tryd.ntmps5
    go_wp2_with fail
    refine (HAW.out w (Below.refl _ _)).mono ?_
    rintro e w1 ⟨rfl, hb1⟩
    have HB1 : Hid (Below w.heap.size w w1) := hb1
    clear hb1
    go_wp2_with fail
    refine (HAW.out w1 HB1.out).mono ?_
    rintro e w2 ⟨rfl, hb2⟩
    have HB2 : Hid (Below w.heap.size w w2) := HB1.out.trans (hb2.mono HB1.out.size)
    clear hb2
    go_wp2
    go_ret
    exact ⟨rfl, HB2.out⟩
  go_enter Tryd.func5, Tryd.ntmps5
  go_wp2_with fail
  refine (HAW.out w (Below.refl _ _)).mono ?_
  rintro e w1 ⟨rfl, hb1⟩
  have HB1 : Hid (Below w.heap.size w w1) := hb1
  have hs1 : w.heap.size ≤ w1.heap.size := hb1.size
  clear hb1
  go_wp2_with fail
  rw [hw2]
  clear hr hq hk hw1 hw2 hw3 hw4
  refine (new_v (fun i => i < w.heap.size) w1 k (by have := HK1.out; omega) (by have := HK1.out; omega) (fun i hi => by omega)).mono ?_
  rintro e w2 ⟨L, rfl, hD, hb2, _⟩
  have HD : Hid (IsDisk (fun i => i < w.heap.size) w2 L (freshSt k)) := hD
  have HK2 : Hid (Kept (fun i => i < w.heap.size) w w2) := (Kept.ofBelow HB1.out fun _ h => h).trans (Kept.ofBelow hb2 fun i hi => by omega)
  clear hD hb2
  go_wp2_with fail
  refine (HNEW.out w2 L HD.out).mono ?_
  rintro e w3 ⟨p, rfl, hJ, hp, hb3⟩
  have HJ3 : Hid (IsJ B.Head (fun i => i < w.heap.size) w3 p L (freshSt k) (JS.fresh 0 k 1 0)) := hJ
  have HK3 : Hid (Kept (fun i => i < w.heap.size) w w3) := HK2.out.trans (Kept.ofBelow hb3 fun i hi => Nat.lt_of_lt_of_le hi HK2.out.size)
  have HG0 : Hid (Goes (freshSt k) (JS.fresh 0 k 1 0) 0 [] 0) := Goes.new k 0 k 1 0 HK1.out.1 (by have := HK1.out; omega) (by omega) (by decide) (by decide) (by have := HK1.out; omega)
  clear hJ hp hb3 HD HK2 HB1
  go_wp2_with fail
  go_loopw [10] (fun i wr => ∃ (j : Nat) (wv : Value) (S : St) (J : JS) (sure : List (List Nat)), j ≤ len1 ∧ i = .int .i64 j ∧ Hid (IsJ B.Head (fun i => i < w.heap.size) wr p { L with wv := wv } S J) ∧ Hid (Goes S J 0 sure j) ∧ J.n = k ∧ Hid (Kept (fun i => i < w.heap.size) w wr)) (fun i _ => len1 - (intOf i).toNat)
  case atStart => exact ⟨0, L.wv, _, _, _, by omega, rfl, HJ3.out, HG0.out, rfl, HK3.out⟩
  case round =>
    clear HJ3 HK3 HG0
    obtain ⟨j, wv, S, J, sure, hj, rfl, HJ, HG, hJn, HKP⟩ := hrel
    by_cases hlt : j < len1
    · obtain ⟨b, off, z, rfl, hb, hz, -, hat⟩ := HU.out.at hlt
      have hc : wr.cell? ⟨b, off + j, none⟩ = some (.int .u16 (z : Nat)) := (HKP.out.cell (p := ⟨b, off + j, none⟩) hb).trans hat
      have hlj : ((j : Nat) : Int) < (len1 : Nat) := by omega
      obtain ⟨m, t1, t2, t3, hm, hm1⟩ := pick1000 z hz
      have HT1 : Hid ((z : Int).tmod 1000 = (m : Nat) ∧ wrap64 (z : Nat) = (z : Nat) ∧ wrap64 (m : Nat) = (m : Nat)) := ⟨t1, t2, t3⟩
      clear t1 t2 t3
      have hmk := Tryd.makeN m (by omega)
      obtain ⟨u, hu⟩ : ∃ u, u = J.used := ⟨_, rfl⟩
      have hun : u ≤ k := by rw [hu, ← hJn]; exact HG.out.inv.ring.room
      obtain ⟨fr, hfr⟩ : ∃ fr, fr = k - u := ⟨_, rfl⟩
      have HFR : Hid (J.n - J.used = fr) := by unfold Hid; rw [hJn, ← hu, hfr]
      have HQF : Hid (∀ n, Calls Tryd.prog 20 #[.pointer (some ⟨p, 0, none⟩)] (wr.drewN n) fun x w' => x = .returned (.int .i64 (fr : Nat)) ∧ ∃ m, w' = (wr.drewN n).drewN m) := fun n => by
        have := B.free (wr.drewN n) p L.b J (B.same HJ.out.1 rfl) HG.out.inv.ring.room HG.out.inv.ring.n2
        rwa [HFR.out] at this
      have HOM : Hid (Octs (wr.alloc (.cells (u8s (zl m)).toArray 5)) (.slice (some ⟨wr.heap.size, 0, none⟩) m m) (zl m)) := octs_made wr m (by omega) _
      have HU2 : Hid (u = J.used ∧ u ≤ k ∧ k ≤ 33 ∧ fr = k - u) := ⟨hu, hun, HK1.out.2, hfr⟩
      have HM : Hid (m = z % 1000 ∧ m < 1000) := ⟨hm, hm1⟩
      have HJN : Hid (J.n = k) := hJn
      clear hm hat hu hun hfr hJn hm1
      have h100 : j ≤ 100 := by omega
      by_cases hm0 : m = 0
      · subst hm0
        have HFB : Hid (fitsB J 0 = false) := fitsB_no
        have HUU : Hid (J.used = u) := HU2.out.1.symm
        have HFF : Hid (J.n - J.used = fr) := HFR.out
        have HG2 : Hid (Goes S J 0 sure (j + 1)) := HG.out.mono (by omega)
        have HJN2 : Hid (J.n = k) := HJN.out
        obtain ⟨S', hS'⟩ : ∃ S', S' = S := ⟨_, rfl⟩
        have HUF : Hid (((u : Nat) : Int) + (fr : Nat) = (k : Nat)) := uf_sum HU2.out.2.1 HU2.out.2.2.2
        have HWK : Hid (wrap64 (k : Nat) = (k : Nat)) := wrap_k HU2.out.2.2.1
        have HA : Hid (appendR S J (zl 0) = (S', J, 2)) := by unfold Hid; rw [hS']; exact appendR_arg HG.out.dead HG.out.dirty (.inl rfl)
        have HG2' : Hid (Goes S' J 0 sure (j + 1)) := by unfold Hid; rw [hS']; exact HG2.out
        clear HG2 hS'
        have HG2 := HG2'
        have HFITS : Hid (∀ n, Calls Tryd.prog 17 #[.pointer (some ⟨p, 0, none⟩), .int .i64 0] (wr.drewN n) fun x w' => x = .returned (.bool false) ∧ ∃ m, w' = (wr.drewN n).drewN m) := fun n => by
          have := B.fits (wr.drewN n) p L.b J 0 (B.same HJ.out.1 rfl) HG.out.inv.ring.room HG.out.inv.ring.n2 (by have := HM.out; omega) (by have := HM.out; omega)
          rwa [HFB.out] at this
        have HAP : Hid (∀ n, Calls Tryd.prog 10 #[.pointer (some ⟨p, 0, none⟩), .slice (some ⟨wr.heap.size, 0, none⟩) 0 0] ((wr.drewN n).alloc (.cells (u8s (zl 0)).toArray 5)) fun x w' => ∃ wv, x = .returned (.int .i64 2) ∧ IsJ B.Head (fun i => i < w.heap.size) w' p { L with wv := wv } S' J ∧ Kept (fun i => i < w.heap.size) w w') := fun n => by
          have := append_made B (L := { L with wv := wv }) HJ.out HG.out (by omega) HKP.out (StepsK.below HT.out) 0 (by have := HM.out; omega) n
          rwa [HA.out] at this
        have hmk0 : ∀ W : World, (Instr.makeSlice 32 (.int .i64 0) (.int .i64 0)).run Tryd.prog W = .ok (.slice (some ⟨W.heap.size, 0, none⟩) 0 0) (W.alloc (.cells (u8s (zl 0)).toArray 5)) := hmk
        obtain ⟨t1, t2, t3⟩ := HT1.out
        clear t2
        go_wp2_with fail
        clear t1
        refine (HFITS.out 0).mono ?_
        rintro x wq ⟨rfl, nq1, hwq⟩
        rw [hwq, World.drewN_drewN]
        clear hwq wq
        go_wp2_with fail
        refine (HQF.out nq1).mono ?_
        rintro x wq ⟨rfl, nq2, hwq⟩
        rw [hwq, World.drewN_drewN]
        clear hwq wq
        go_wp2_with fail
        refine (HAP.out _).mono ?_
        rintro x w5 ⟨wv5, rfl, hJ5, hk5⟩
        have HJ5 : Hid (IsJ B.Head (fun i => i < w.heap.size) w5 p { L with wv := wv5 } S' J) := hJ5
        have HK5 : Hid (Kept (fun i => i < w.heap.size) w w5) := hk5
        clear hJ5 hk5 HAP HFITS t3 hmk hmk0
        have HQU2 : Hid (∀ n, Calls Tryd.prog 19 #[.pointer (some ⟨p, 0, none⟩)] (w5.drewN n) fun x w' => x = .returned (.int .i64 (u : Nat)) ∧ w' = w5.drewN n) := fun n => by
          have := B.used (w5.drewN n) p L.b J (B.same HJ5.out.1 rfl)
          rwa [HUU.out] at this
        have HQF2 : Hid (∀ n, Calls Tryd.prog 20 #[.pointer (some ⟨p, 0, none⟩)] (w5.drewN n) fun x w' => x = .returned (.int .i64 (fr : Nat)) ∧ ∃ m, w' = (w5.drewN n).drewN m) := fun n => by
          have := B.free (w5.drewN n) p L.b J (B.same HJ5.out.1 rfl) HG2.out.inv.ring.room HG2.out.inv.ring.n2
          rwa [HFF.out] at this
        have hwk := HWK.out
        have huf := HUF.out
        go_wp2_with fail
        refine (HQU2.out 0).mono ?_
        rintro x wq ⟨rfl, hwq⟩
        rw [hwq]
        clear hwq wq
        go_wp2_with fail
        refine (HQF2.out 0).mono ?_
        rintro x wq ⟨rfl, nq3, hwq⟩
        rw [hwq, World.drewN_drewN]
        clear hwq wq
        go_wp2_with fail
        refine (HQF2.out _).mono ?_
        rintro x wq ⟨rfl, nq4, hwq⟩
        rw [hwq, World.drewN_drewN]
        clear hwq wq
        go_wp2
        clear hwk huf
        go_roundw
        case rel => exact ⟨j + 1, wv5, S', J, _, by omega, by go_num, HJ5.out.below (below_drewN7 w5 _), HG2.out, HJN2.out, HK5.out.trans (Kept.ofBelow (below_drewN7 w5 _) fun i hi => Nat.lt_of_lt_of_le hi HK5.out.size)⟩
        case measure => simp [intOf]; omega
      · have HM0 : Hid (¬ ((m : Nat) : Int) = 0) := by unfold Hid; omega
        obtain ⟨q, hq⟩ : ∃ q, q = partsN m + 1 := ⟨_, rfl⟩
        have HSN : Hid (sectorsN (m : Nat) = (q : Nat)) := by unfold Hid; rw [hq]; exact sectorsN_nat m (by omega) (by have := HM.out; omega)
        have HZ : Hid ((1 ≤ (zl m).length ∧ (zl m).length ≤ 65000) ∧ ∀ z ∈ zl m, z < 256) := ⟨by rw [zl_length]; have := HM.out; omega, zl_small _⟩
        have HZL : Hid (partsN (zl m).length + 1 = q) := by unfold Hid; rw [zl_length, hq]
        have HFB0 : Hid (fitsB J (m : Nat) = decide (q ≤ fr)) := by unfold Hid; rw [fitsB_eq (by omega) (by have := HM.out; omega), HFR.out, ← hq]
        have HQ9 : Hid (q ≤ 20) := by have := HM.out; unfold Hid; rw [hq]; unfold partsN; omega
        clear hq
        by_cases hfit : q ≤ fr
        · have HFIT : Hid (q ≤ fr) := hfit
          have HFB : Hid (fitsB J (m : Nat) = true) := by unfold Hid; rw [HFB0.out]; exact decide_eq_true hfit
          obtain ⟨S', hA, hG2⟩ := HG.out.on (zl m) HZ.out (by rw [HZL.out, HFR.out]; exact hfit)
          rw [HZL.out] at hA hG2
          have HA : Hid (appendR S J (zl m) = (S', J.after q, 0)) := hA
          have HG2 : Hid (Goes S' (J.after q) 0 (sure ++ [zl m]) (j + 1)) := hG2
          have HJN2 : Hid ((J.after q).n = k) := HJN.out
          obtain ⟨u2, hu2⟩ : ∃ u2, u2 = u + q := ⟨_, rfl⟩
          obtain ⟨fr2, hfr2⟩ : ∃ fr2, fr2 = fr - q := ⟨_, rfl⟩
          have HUU : Hid ((J.after q).used = u2) := by show J.used + q = u2; rw [hu2, HU2.out.1]
          have HFF : Hid ((J.after q).n - (J.after q).used = fr2) := by
            show J.n - (J.used + q) = fr2
            have h1 := HFR.out
            have h2 := HU2.out
            omega
          have HUF : Hid (((u2 : Nat) : Int) + (fr2 : Nat) = (k : Nat)) := by unfold Hid; rw [hu2, hfr2]; exact (uf_sum2 HU2.out.2.1 HU2.out.2.2.2 hfit).1
          have HWK : Hid (wrap64 (k : Nat) = (k : Nat)) := wrap_k HU2.out.2.2.1
          have HGT : Hid (¬ ((fr : Nat) : Int) < (q : Nat)) := Int.not_lt.2 (Int.ofNat_le.2 hfit)
          clear hA hG2 hu2 hfr2 HFB0 hfit hm0
          have HFITS : Hid (∀ n, Calls Tryd.prog 17 #[.pointer (some ⟨p, 0, none⟩), .int .i64 (m : Nat)] (wr.drewN n) fun x w' => x = .returned (.bool true) ∧ ∃ m, w' = (wr.drewN n).drewN m) := fun n => by
            have := B.fits (wr.drewN n) p L.b J (m : Nat) (B.same HJ.out.1 rfl) HG.out.inv.ring.room HG.out.inv.ring.n2 (by have := HM.out; omega) (by have := HM.out; omega)
            rwa [HFB.out] at this
          have HAP : Hid (∀ n, Calls Tryd.prog 10 #[.pointer (some ⟨p, 0, none⟩), .slice (some ⟨wr.heap.size, 0, none⟩) m m] ((wr.drewN n).alloc (.cells (u8s (zl m)).toArray 5)) fun x w' => ∃ wv, x = .returned (.int .i64 0) ∧ IsJ B.Head (fun i => i < w.heap.size) w' p { L with wv := wv } S' (J.after q) ∧ Kept (fun i => i < w.heap.size) w w') := fun n => by
            have := append_made B (L := { L with wv := wv }) HJ.out HG.out (by omega) HKP.out (StepsK.below HT.out) m (by have := HM.out; omega) n
            rwa [HA.out] at this
          obtain ⟨t1, t2, t3⟩ := HT1.out
          clear t2
          go_wp2_with fail
          clear t1
          refine (HFITS.out 0).mono ?_
          rintro x wq ⟨rfl, nq1, hwq⟩
          rw [hwq, World.drewN_drewN]
          clear hwq wq
          go_wp2_with fail
          refine (HQF.out nq1).mono ?_
          rintro x wq ⟨rfl, nq2, hwq⟩
          rw [hwq, World.drewN_drewN]
          clear hwq wq
          go_wp2_with fail
          refine (HAP.out _).mono ?_
          rintro x w5 ⟨wv5, rfl, hJ5, hk5⟩
          have HJ5 : Hid (IsJ B.Head (fun i => i < w.heap.size) w5 p { L with wv := wv5 } S' (J.after q)) := hJ5
          have HK5 : Hid (Kept (fun i => i < w.heap.size) w w5) := hk5
          clear hJ5 hk5 HAP HFITS t3 hmk 
          have hm0i := HM0.out
          have hgt := HGT.out
          go_wp2_with fail
          refine (refSectors6 (m : Nat) _ (by omega) (by have := HM.out; omega)).mono ?_
          rintro x w6 ⟨rfl, hw6⟩
          rw [hw6, HSN.out]
          clear hw6
          have HQU2 : Hid (∀ n, Calls Tryd.prog 19 #[.pointer (some ⟨p, 0, none⟩)] (w5.drewN n) fun x w' => x = .returned (.int .i64 (u2 : Nat)) ∧ w' = w5.drewN n) := fun n => by
            have := B.used (w5.drewN n) p L.b (J.after q) (B.same HJ5.out.1 rfl)
            rwa [HUU.out] at this
          have HQF2 : Hid (∀ n, Calls Tryd.prog 20 #[.pointer (some ⟨p, 0, none⟩)] (w5.drewN n) fun x w' => x = .returned (.int .i64 (fr2 : Nat)) ∧ ∃ m, w' = (w5.drewN n).drewN m) := fun n => by
            have := B.free (w5.drewN n) p L.b (J.after q) (B.same HJ5.out.1 rfl) HG2.out.inv.ring.room HG2.out.inv.ring.n2
            rwa [HFF.out] at this
          have hwk := HWK.out
          have huf := HUF.out
          go_wp2_with fail
          refine (HQU2.out 0).mono ?_
          rintro x wq ⟨rfl, hwq⟩
          rw [hwq]
          clear hwq wq
          go_wp2_with fail
          refine (HQF2.out 0).mono ?_
          rintro x wq ⟨rfl, nq3, hwq⟩
          rw [hwq, World.drewN_drewN]
          clear hwq wq
          go_wp2
          clear hwk huf
          go_roundw
          case rel => exact ⟨j + 1, wv5, S', (J.after q), _, by omega, by go_num, HJ5.out.below (below_drewN7 w5 _), HG2.out, HJN2.out, HK5.out.trans (Kept.ofBelow (below_drewN7 w5 _) fun i hi => Nat.lt_of_lt_of_le hi HK5.out.size)⟩
          case measure => simp [intOf]; omega
        · have HFB : Hid (fitsB J (m : Nat) = false) := by unfold Hid; rw [HFB0.out]; exact decide_eq_false hfit
          have HUU : Hid (J.used = u) := HU2.out.1.symm
          have HFF : Hid (J.n - J.used = fr) := HFR.out
          have HG2 : Hid (Goes S J 0 sure (j + 1)) := HG.out.mono (by omega)
          have HJN2 : Hid (J.n = k) := HJN.out
          obtain ⟨S', hS'⟩ : ∃ S', S' = S := ⟨_, rfl⟩
          have HUF : Hid (((u : Nat) : Int) + (fr : Nat) = (k : Nat)) := uf_sum HU2.out.2.1 HU2.out.2.2.2
          have HWK : Hid (wrap64 (k : Nat) = (k : Nat)) := wrap_k HU2.out.2.2.1
          have HA : Hid (appendR S J (zl m) = (S', J, 11)) := by unfold Hid; rw [hS']; exact appendR_log HG.out.dead HG.out.dirty HZ.out.1 (by rw [HZL.out, HFR.out]; omega)
          have HG2' : Hid (Goes S' J 0 sure (j + 1)) := by unfold Hid; rw [hS']; exact HG2.out
          clear HG2 hS' HFB0
          have HG2 := HG2'
          have HGT : Hid (((fr : Nat) : Int) < (q : Nat)) := Int.ofNat_lt.2 (Nat.lt_of_not_le hfit)
          have HFITS : Hid (∀ n, Calls Tryd.prog 17 #[.pointer (some ⟨p, 0, none⟩), .int .i64 (m : Nat)] (wr.drewN n) fun x w' => x = .returned (.bool false) ∧ ∃ m, w' = (wr.drewN n).drewN m) := fun n => by
            have := B.fits (wr.drewN n) p L.b J (m : Nat) (B.same HJ.out.1 rfl) HG.out.inv.ring.room HG.out.inv.ring.n2 (by have := HM.out; omega) (by have := HM.out; omega)
            rwa [HFB.out] at this
          have HAP : Hid (∀ n, Calls Tryd.prog 10 #[.pointer (some ⟨p, 0, none⟩), .slice (some ⟨wr.heap.size, 0, none⟩) m m] ((wr.drewN n).alloc (.cells (u8s (zl m)).toArray 5)) fun x w' => ∃ wv, x = .returned (.int .i64 11) ∧ IsJ B.Head (fun i => i < w.heap.size) w' p { L with wv := wv } S' J ∧ Kept (fun i => i < w.heap.size) w w') := fun n => by
            have := append_made B (L := { L with wv := wv }) HJ.out HG.out (by omega) HKP.out (StepsK.below HT.out) m (by have := HM.out; omega) n
            rwa [HA.out] at this
          obtain ⟨t1, t2, t3⟩ := HT1.out
          clear t2
          go_wp2_with fail
          clear t1
          refine (HFITS.out 0).mono ?_
          rintro x wq ⟨rfl, nq1, hwq⟩
          rw [hwq, World.drewN_drewN]
          clear hwq wq
          go_wp2_with fail
          refine (HQF.out nq1).mono ?_
          rintro x wq ⟨rfl, nq2, hwq⟩
          rw [hwq, World.drewN_drewN]
          clear hwq wq
          go_wp2_with fail
          refine (HAP.out _).mono ?_
          rintro x w5 ⟨wv5, rfl, hJ5, hk5⟩
          have HJ5 : Hid (IsJ B.Head (fun i => i < w.heap.size) w5 p { L with wv := wv5 } S' J) := hJ5
          have HK5 : Hid (Kept (fun i => i < w.heap.size) w w5) := hk5
          clear hJ5 hk5 HAP HFITS t3 hmk 
          have hm0i := HM0.out
          have hgt := HGT.out
          go_wp2_with fail
          refine (refSectors6 (m : Nat) _ (by omega) (by have := HM.out; omega)).mono ?_
          rintro x w6 ⟨rfl, hw6⟩
          rw [hw6, HSN.out]
          clear hw6
          have HQU2 : Hid (∀ n, Calls Tryd.prog 19 #[.pointer (some ⟨p, 0, none⟩)] (w5.drewN n) fun x w' => x = .returned (.int .i64 (u : Nat)) ∧ w' = w5.drewN n) := fun n => by
            have := B.used (w5.drewN n) p L.b J (B.same HJ5.out.1 rfl)
            rwa [HUU.out] at this
          have HQF2 : Hid (∀ n, Calls Tryd.prog 20 #[.pointer (some ⟨p, 0, none⟩)] (w5.drewN n) fun x w' => x = .returned (.int .i64 (fr : Nat)) ∧ ∃ m, w' = (w5.drewN n).drewN m) := fun n => by
            have := B.free (w5.drewN n) p L.b J (B.same HJ5.out.1 rfl) HG2.out.inv.ring.room HG2.out.inv.ring.n2
            rwa [HFF.out] at this
          have hwk := HWK.out
          have huf := HUF.out
          go_wp2_with fail
          refine (HQU2.out 0).mono ?_
          rintro x wq ⟨rfl, hwq⟩
          rw [hwq]
          clear hwq wq
          go_wp2_with fail
          refine (HQF2.out 0).mono ?_
          rintro x wq ⟨rfl, nq3, hwq⟩
          rw [hwq, World.drewN_drewN]
          clear hwq wq
          go_wp2_with fail
          refine (HQF2.out _).mono ?_
          rintro x wq ⟨rfl, nq4, hwq⟩
          rw [hwq, World.drewN_drewN]
          clear hwq wq
          go_wp2
          clear hwk huf
          go_roundw
          case rel => exact ⟨j + 1, wv5, S', J, _, by omega, by go_num, HJ5.out.below (below_drewN7 w5 _), HG2.out, HJN2.out, HK5.out.trans (Kept.ofBelow (below_drewN7 w5 _) fun i hi => Nat.lt_of_lt_of_le hi HK5.out.size)⟩
          case measure => simp [intOf]; omega
    · have hle : ¬ ((j : Nat) : Int) < (len1 : Nat) := by omega
      go_wp2
      go_ret
      exact ⟨rfl, HKP.out.below fun i hi => hi⟩
end Go.Proofs.YthhdkadjlddmkaaDoor
