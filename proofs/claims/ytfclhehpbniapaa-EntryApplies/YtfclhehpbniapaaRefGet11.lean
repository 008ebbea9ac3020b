/- The document's Get of a list of mapped pages. (Written by wip/mk_refget11.py.) -/
import Derived.Test.YtfclhehpbniapaaGetMath11
import Derived.Test.YtfclhehpbniapaaRefRight11
namespace Go.Proofs.Ytfclhehpbniapaa
open Go.RowKit
set_option linter.unusedVariables false

/-- A mapped page in a block of its own. -/
def MdAt (w : World) (b : Nat) (m : Md) : Prop := w.heap[b]? = some (.cells #[.int .i64 m.h, .int .i64 m.p, .int .i64 m.s, .int .i64 m.g, .int .u32 (m.u : Nat)] 41 (0, 0))
theorem MdAt.cells {w : World} {b : Nat} {m : Md} (h : MdAt w b m) : w.cell? ⟨b, 0, none⟩ = some (.int .i64 m.h) ∧ w.cell? ⟨b, 1, none⟩ = some (.int .i64 m.p) ∧ w.cell? ⟨b, 2, none⟩ = some (.int .i64 m.s) ∧ w.cell? ⟨b, 3, none⟩ = some (.int .i64 m.g) ∧ w.cell? ⟨b, 4, none⟩ = some (.int .u32 (m.u : Nat)) := by
  refine ⟨?_, ?_, ?_, ?_, ?_⟩ <;> rw [cell_of_row _ _ _ _ _ _ h] <;> rfl
theorem MdAt.below {w w' : World} {b : Nat} {m : Md} (h : MdAt w b m) (hb : Below w.heap.size w w') : MdAt w' b m := (hb.block b (lt_of_heap h)).trans h
theorem MdAt.frozen {w : World} {b : Nat} {m : Md} (h : MdAt w b m) (i : Nat) : w.frozen? ⟨b, i, none⟩ = false := by
  simp [World.frozen?, show w.heap[b]? = _ from h]
theorem MdAt.set_s {w : World} {b : Nat} {m : Md} (h : MdAt w b m) (v : Int) : MdAt (w.setCell ⟨b, 2, none⟩ (.int .i64 v)) b { m with s := v } := (heap_set_row h 2 _).trans rfl
theorem MdAt.set_g {w : World} {b : Nat} {m : Md} (h : MdAt w b m) (v : Int) : MdAt (w.setCell ⟨b, 3, none⟩ (.int .i64 v)) b { m with g := v } := (heap_set_row h 3 _).trans rfl
theorem MdAt.set_u {w : World} {b : Nat} {m : Md} (h : MdAt w b m) (v : Nat) : MdAt (w.setCell ⟨b, 4, none⟩ (.int .u32 (v : Nat))) b { m with u := v } := (heap_set_row h 4 _).trans rfl
theorem own_below11 {w w' : World} {base n k : Nat} {e : TypeId} {v : Value} {xs : List Value} (h : w.ownsRow base e k v n xs) (hb : Below w.heap.size w w') : w'.ownsRow base e k v n xs :=
  ownsRow_same h fun g hg => by
    rcases h.2 with ⟨rfl, _⟩ | ⟨g', cap, cur, rfl, _, hgg, _⟩
    · simp [Value.ownBlock] at hg
    · simp [Value.ownBlock] at hg
      subst hg
      exact hb.block _ (lt_of_heap hgg)
theorem below_grownK {B k : Nat} {w w' : World} {e : TypeId} {v : Value} {n : Nat} {xs : List Value} (hown : w.ownsRow B e k v n xs) (hg : w.grownBy w' v.ownBlock) (hB : B ≤ w.heap.size) : Below B w w' :=
  (Below.refl B w).grown hg hB fun j hj => (hown.lt j hj).1
theorem Try.infoM11 : (Try.prog.info? 41).map (fun i => (i.zero, i.size, i.bytes)) = some (some (.agg #[.int .i64 0, .int .i64 0, .int .i64 0, .int .i64 0, .int .u32 0]), 5, 40) := by kernel_rfl
theorem els_one11 {w : World} {m : Nat} {x : Md} {e : TypeId} (h : w.heap.size = m) : Els encM 5 (w.alloc (.cells (encM x).toArray e)) (.slice (some ⟨m, 0, none⟩) 1 1) [x] := by subst h; exact Els.one encM_ok
/-- How many octets an answer has. -/
def ansC : Option (List Md) → Int
  | none => 0
  | some l => 4 + 18 * (l.length : Nat)
theorem slice_len {zs : List Nat} {k i : Nat} (h : 4 + 18 * k ≤ zs.length) (hi : i < k) : (sliceG zs i).length = 18 := by
  rw [sliceG, List.length_take, List.length_drop]; omega
theorem part_small {zs : List Nat} (h : ∀ z ∈ zs, z < 256) (a b : Nat) : ∀ z ∈ (zs.drop a).take b, z < 256 := fun z hz => h z (List.mem_of_mem_drop (List.mem_of_mem_take hz))

set_option maxRecDepth 20000 in
set_option maxHeartbeats 4000000 in
theorem refGet11_any (w : World) (n : Int) (zs : List Nat) (hz : ∀ z ∈ zs, z < 256) (hl : zs.length ≤ 600) :
    Calls Try.prog 8 #[.int .i64 n, .string (strN zs)] w fun e w' => ∃ v, e = .returned (.tuple #[v, .int .i64 (ansC (getM n zs))]) ∧ Els encM 5 w' v ((getM n zs).getD []) ∧ Below w.heap.size w w' := by
  obtain ⟨i0, hi, hz0, hz1, hz2⟩ := info_parts Try.infoM11
  have hsz := strN_size zs
  obtain ⟨L, hL⟩ : ∃ L, L = zs.length := ⟨_, rfl⟩
  have HL : Hid (L = zs.length) := hL
  rw [← hL] at hl hsz
  by_cases h4 : L < 4
  · have HG : Hid (getM n zs = none) := by
      unfold Hid getM
      rw [if_neg]
      rintro ⟨h, _⟩
      unfold fitsG at h
      have := of_decide_eq_true h
      omega
    clear hL hz
    go_enter Try.func8, Try.ntmps8
    go_wp2
    refine bodyPost_ret (results_tmp2 rfl _ _ _) rfl ?_
    rw [HG.out]
    exact ⟨.slice none 0 0, rfl, Els.nil _, Below.refl _ _⟩
  · have HZ : Hid (∀ z ∈ zs, z < 256) := hz
    have hx0 := strN_cut zs 0 4
    obtain ⟨P0, hP0⟩ : ∃ P0, P0 = (zs.drop 0).take (4 - 0) := ⟨_, rfl⟩
    rw [← hP0] at hx0
    have HP0 : Hid (P0 = zs.take 4) := hP0
    have HPL : Hid (P0.length = 4) := by unfold Hid; rw [HP0.out, List.length_take]; omega
    have HPS : Hid (∀ z ∈ P0, z < 256) := by unfold Hid; rw [hP0]; exact part_small hz 0 4
    have HKB : Hid (0 ≤ getO P0 ∧ getO P0 < 4294967296) := getO_bd HPS.out (k := 4) HPL.out (by decide)
    have hc0 : (convert 9 23 (.string (strN P0))).run Try.prog w = .ok (.slice (some ⟨w.heap.size, 0, none⟩) 4 (grownCap w 4 0 5)) (Lib.bytesWorld w 5 (strN P0)) := (back_at P0 4 HPL.out HPS.out (by decide) w _ rfl).1
    have HO0 : Hid (Octs (Lib.bytesWorld w 5 (strN P0)) (.slice (some ⟨w.heap.size, 0, none⟩) 4 (grownCap w 4 0 5)) P0 ∧ Below w.heap.size w (Lib.bytesWorld w 5 (strN P0))) := (back_at P0 4 HPL.out HPS.out (by decide) w _ rfl).2
    clear hL hz hP0
    go_enter Try.func8, Try.ntmps8
    go_wp2_with fail
    refine (refGet_octs5 _ P0 _ HO0.out.1).mono ?_
    rintro e w1 ⟨rfl, hb⟩
    have HB1 : Hid (Below w.heap.size w w1) := HO0.out.2.trans (hb.mono HO0.out.2.size)
    obtain ⟨K, hK⟩ : ∃ K : Nat, (K : Int) = getO P0 := ⟨(getO P0).toNat, by have := HKB.out; omega⟩
    have hKB : K < 4294967296 := by have := HKB.out; omega
    have HC : Hid (cntG zs = K) := by unfold Hid cntG; rw [← HP0.out, ← hK, Int.toNat_natCast]
    rw [← hK]
    clear hb hx0 hc0 hK HKB HO0
    by_cases q1 : L / 18 < K
    · have HG : Hid (getM n zs = none) := by
        unfold Hid getM
        rw [if_neg]
        rintro ⟨h, _⟩
        unfold fitsG at h
        have h2 := of_decide_eq_true h
        have h3 := HL.out
        rw [HC.out] at h2
        omega
      have q2 : ((L : Int)).tdiv 18 < (K : Int) := by rw [Int.tdiv_eq_ediv_of_nonneg (by omega)]; omega
      have q3 : (L : Int) / 18 < (K : Int) := by omega
      go_wp2_with fail
      refine bodyPost_ret (results_tmp2 rfl _ _ _) rfl ?_
      rw [HG.out]
      exact ⟨.slice none 0 0, rfl, Els.nil _, HB1.out⟩
    · have q2 : ¬ ((L : Int)).tdiv 18 < (K : Int) := by rw [Int.tdiv_eq_ediv_of_nonneg (by omega)]; omega
      have q3 : ¬ (L : Int) / 18 < (K : Int) := by omega
      have w1e : IntKind.i64.wrap (18 * (K : Int)) = 18 * (K : Int) := by rw [IntKind.wrap_i64]; omega
      have w2e : IntKind.i64.wrap (4 + 18 * (K : Int)) = 4 + 18 * (K : Int) := by rw [IntKind.wrap_i64]; omega
      by_cases q4 : L < 4 + 18 * K
      · have HG : Hid (getM n zs = none) := by
          unfold Hid getM
          rw [if_neg]
          rintro ⟨h, _⟩
          unfold fitsG at h
          have h2 := of_decide_eq_true h
          have h3 := HL.out
          rw [HC.out] at h2
          omega
        have q5 : (L : Int) < 4 + 18 * (K : Int) := by omega
        go_wp2_with fail
        refine bodyPost_ret (results_tmp2 rfl _ _ _) rfl ?_
        rw [HG.out]
        exact ⟨.slice none 0 0, rfl, Els.nil _, HB1.out⟩
      · have q5 : ¬ (L : Int) < 4 + 18 * (K : Int) := by omega
        have HFT : Hid (fitsG zs = true) := by
          unfold Hid fitsG
          rw [HC.out]
          exact decide_eq_true (by have := HL.out; omega)
        go_wp2_with fail
        clear q2 q3 q5 w1e w2e
        have HLK : Hid (4 + 18 * K ≤ L) := by unfold Hid; omega
        have HK33 : Hid (K ≤ 33) := by unfold Hid; omega
        go_loopw [7, 8] (fun v i wr => ∃ k : Nat, i = .int .i64 (k : Nat) ∧ k ≤ K ∧ Hid (wr.ownsRow w.heap.size 41 5 v k (ecells encM (listG zs k))) ∧ Hid (Below w.heap.size w wr)) (fun _ i _ => K - (intOf i).toNat)
        case atStart => exact ⟨0, rfl, Nat.zero_le _, World.ownsRow_nil _ _ _ _, HB1.out⟩
        case round =>
          obtain ⟨k, rfl, hk, HO, HB⟩ := hrel
          by_cases hlt : k < K
          · have e1 : IntKind.i64.wrap (18 * (k : Int)) = ((18 * k : Nat) : Int) := by rw [IntKind.wrap_i64]; have := HK33.out; omega
            have e2 : IntKind.i64.wrap (4 + ((18 * k : Nat) : Int)) = ((4 + 18 * k : Nat) : Int) := by rw [IntKind.wrap_i64]; have := HK33.out; omega
            have e3 : IntKind.i64.wrap (22 + ((18 * k : Nat) : Int)) = ((22 + 18 * k : Nat) : Int) := by rw [IntKind.wrap_i64]; have := HK33.out; omega
            obtain ⟨A, hA⟩ : ∃ A, A = 4 + 18 * k := ⟨_, rfl⟩
            obtain ⟨B, hB⟩ : ∃ B, B = 22 + 18 * k := ⟨_, rfl⟩
            have hx := strN_cut zs A B
            have hP : (zs.drop A).take (B - A) = sliceG zs k := by unfold sliceG; rw [hA, hB, show 22 + 18 * k - (4 + 18 * k) = 18 by omega]
            rw [hP] at hx
            have HPL : Hid ((sliceG zs k).length = 18) := slice_len (k := K) (by rw [← HL.out]; exact HLK.out) hlt
            have HPS : Hid (∀ z ∈ sliceG zs k, z < 256) := part_small HZ.out _ _
            have HLS : Hid (listG zs (k + 1) = listG zs k ++ [recG (sliceG zs k)]) := listG_succ zs k
            have hAB : A ≤ B := by omega
            have hBL : B ≤ L := by have := HLK.out; omega
            have e2' : IntKind.i64.wrap (4 + ((18 * k : Nat) : Int)) = (A : Int) := by rw [e2, hA]
            have e3' : IntKind.i64.wrap (22 + ((18 * k : Nat) : Int)) = (B : Int) := by rw [e3, hB]
            have e4 : IntKind.i64.wrap (4 + 18 * (k : Int)) = (A : Int) := by rw [hA, ← e2]; congr 1
            have e5 : IntKind.i64.wrap (22 + 18 * (k : Int)) = (B : Int) := by rw [hB, ← e3]; congr 1
            have e6 : wrap64 (4 + 18 * (k : Int)) = (A : Int) := by unfold wrap64; rw [hA]; have := HK33.out; omega
            have e7 : wrap64 (22 + 18 * (k : Int)) = (B : Int) := by unfold wrap64; rw [hB]; have := HK33.out; omega
            have e8 : wrap64 (18 * (k : Int)) = 18 * (k : Int) := by unfold wrap64; have := HK33.out; omega
            have hRG : recG (sliceG zs k) = ⟨getO ((sliceG zs k).take 4) / 4096, getO ((sliceG zs k).take 4) % 4096, getO (((sliceG zs k).drop 4).take 4), getO (((sliceG zs k).drop 8).take 6), (getO (((sliceG zs k).drop 14).take 4)).toNat⟩ := rfl
            rw [hRG] at HLS
            generalize sliceG zs k = P at *
            clear hRG hP hA hB e1 e2 e3
            have hcv : (convert 9 23 (.string (strN P))).run Try.prog wr = .ok (.slice (some ⟨wr.heap.size, 0, none⟩) 18 (grownCap wr 18 0 5)) (Lib.bytesWorld wr 5 (strN P)) := (back_at P 18 HPL.out HPS.out (by decide) wr _ rfl).1
            have HO1 : Hid (Octs (Lib.bytesWorld wr 5 (strN P)) (.slice (some ⟨wr.heap.size, 0, none⟩) 18 (grownCap wr 18 0 5)) P ∧ Below wr.heap.size wr (Lib.bytesWorld wr 5 (strN P))) := (back_at P 18 HPL.out HPS.out (by decide) wr _ rfl).2
            have hcap : 18 ≤ grownCap wr 18 0 5 := grownCap_ge wr 18 0 5
            generalize grownCap wr 18 0 5 = CP at *
            generalize hM : wr.heap.size = M at *
            have HM : Hid (wr.heap.size = M) := hM
            clear hM
            go_wp2_with fail
            have HSL : Hid (∀ W, Below (Lib.bytesWorld wr 5 (strN P)).heap.size (Lib.bytesWorld wr 5 (strN P)) W → Octs W (.slice (some ⟨M, 0, none⟩) 4 CP) (P.take 4) ∧ Octs W (.slice (some ⟨M, 4, none⟩) 4 (CP - 4)) ((P.drop 4).take 4) ∧ Octs W (.slice (some ⟨M, 8, none⟩) 6 (CP - 8)) ((P.drop 8).take 6) ∧ Octs W (.slice (some ⟨M, 14, none⟩) 4 (CP - 14)) ((P.drop 14).take 4)) := fun W hW => by
              have h0 := HO1.out.1.kept hW
              exact ⟨h0.front (by decide), (h0.back (n := 4) (x := 4) (by decide) (.inl rfl)).front (by decide), (h0.back (n := 8) (x := 8) (by decide) (.inl rfl)).front (by decide), (h0.back (n := 14) (x := 14) (by decide) (.inl rfl)).front (by decide)⟩
            have HBW : Hid (Below wr.heap.size wr (Lib.bytesWorld wr 5 (strN P))) := by have := HO1.out.2; rwa [← HM.out] at this
            have g1 := getO_bd (zs := P.take 4) (fun z hz => HPS.out z (List.mem_of_mem_take hz)) (k := 4) (by rw [List.length_take, HPL.out]; rfl) (by decide)
            have g2 := getO_bd (zs := (P.drop 4).take 4) (part_small HPS.out _ _) (k := 4) (by rw [List.length_take, List.length_drop, HPL.out]; rfl) (by decide)
            have g3 := getO_bd (zs := (P.drop 8).take 6) (part_small HPS.out _ _) (k := 6) (by rw [List.length_take, List.length_drop, HPL.out]; rfl) (by decide)
            have g4 := getO_bd (zs := (P.drop 14).take 4) (part_small HPS.out _ _) (k := 4) (by rw [List.length_take, List.length_drop, HPL.out]; rfl) (by decide)
            obtain ⟨D1, hD1⟩ : ∃ D : Nat, getO (P.take 4) = (D : Int) := ⟨_, (Int.toNat_of_nonneg g1.1).symm⟩
            obtain ⟨D2, hD2⟩ : ∃ D : Nat, getO ((P.drop 4).take 4) = (D : Int) := ⟨_, (Int.toNat_of_nonneg g2.1).symm⟩
            obtain ⟨D3, hD3⟩ : ∃ D : Nat, getO ((P.drop 8).take 6) = (D : Int) := ⟨_, (Int.toNat_of_nonneg g3.1).symm⟩
            obtain ⟨D4, hD4⟩ : ∃ D : Nat, getO ((P.drop 14).take 4) = (D : Int) := ⟨_, (Int.toNat_of_nonneg g4.1).symm⟩
            rw [hD1] at g1 HLS
            rw [hD2] at g2 HLS
            rw [hD3] at g3 HLS
            rw [hD4] at g4 HLS
            have b1 : D1 < 4294967296 := by have := g1.2; omega
            have b2 : D2 < 4294967296 := by have := g2.2; omega
            have b3 : D3 < 281474976710656 := by have := g3.2; omega
            have b4 : D4 < 4294967296 := by have := g4.2; omega
            have HD : Hid (getO (P.take 4) = (D1 : Int) ∧ getO ((P.drop 4).take 4) = (D2 : Int) ∧ getO ((P.drop 8).take 6) = (D3 : Int) ∧ getO ((P.drop 14).take 4) = (D4 : Int)) := ⟨hD1, hD2, hD3, hD4⟩
            rw [Int.toNat_natCast] at HLS
            obtain ⟨W1, hW1⟩ : ∃ W1, W1 = Lib.bytesWorld wr 5 (strN P) := ⟨_, rfl⟩
            rw [← hW1] at HSL HBW ⊢
            clear hW1 g1 g2 g3 g4 hD1 hD2 hD3 hD4 HO1 hcv hx
            have uw : IntKind.u32.wrap (D4 : Int) = (D4 : Int) := by rw [IntKind.wrap_u32]; omega
            refine (refGet_octs5 _ (P.take 4) W1 (HSL.out _ (Below.refl _ _)).1).mono ?_
            rintro e w2 ⟨rfl, hb2⟩
            rw [HD.out.1]
            have HB2 : Hid (Below W1.heap.size W1 w2) := hb2
            clear hb2
            go_wp2_with fail
            obtain ⟨V, hV⟩ : ∃ V, V = w2.alloc (.cells #[.int .i64 ((D1 : Int) / 4096), .int .i64 ((D1 : Int) % 4096), .int .i64 0, .int .i64 0, .int .u32 0] 41) := ⟨_, rfl⟩
            obtain ⟨Y, hY⟩ : ∃ Y, Y = w2.heap.size := ⟨_, rfl⟩
            have M1 : Hid (MdAt V Y ⟨(D1 : Int) / 4096, (D1 : Int) % 4096, 0, 0, 0⟩) := by rw [hV, hY]; exact heap_alloc_new w2 _
            have HB3 : Hid (Below W1.heap.size W1 V) := by rw [hV]; exact HB2.out.alloc HB2.out.size _
            have HY : Hid (W1.heap.size ≤ Y) := by rw [hY]; exact HB2.out.size
            rw [← hV, ← hY]
            clear hV hY HB2
            refine (refGet_octs5 _ ((P.drop 4).take 4) V (HSL.out _ HB3.out).2.1).mono ?_
            rintro e w4 ⟨rfl, hb4⟩
            rw [HD.out.2.1]
            have M2 : Hid (MdAt w4 Y ⟨(D1 : Int) / 4096, (D1 : Int) % 4096, 0, 0, 0⟩) := M1.out.below hb4
            have HB4 : Hid (Below W1.heap.size W1 w4) := HB3.out.trans (hb4.mono HB3.out.size)
            have c2 := M2.out.cells.2.2.1
            have f2 := M2.out.frozen 2
            clear hb4 HB3 M1
            have M3 : Hid (MdAt (w4.setCell ⟨Y, 2, none⟩ (.int .i64 (D2 : Nat))) Y ⟨(D1 : Int) / 4096, (D1 : Int) % 4096, (D2 : Nat), 0, 0⟩) := M2.out.set_s _
            have HB5 : Hid (Below W1.heap.size W1 (w4.setCell ⟨Y, 2, none⟩ (.int .i64 (D2 : Nat)))) := HB4.out.setCell (p := ⟨Y, 2, none⟩) HY.out _
            go_wp2_with fail
            clear c2 f2 M2 HB4
            generalize w4.setCell ⟨Y, 2, none⟩ (.int .i64 (D2 : Nat)) = w5 at *
            refine (refGet_octs5 _ ((P.drop 8).take 6) w5 (HSL.out _ HB5.out).2.2.1).mono ?_
            rintro e w6 ⟨rfl, hb6⟩
            rw [HD.out.2.2.1]
            have M4 : Hid (MdAt w6 Y ⟨(D1 : Int) / 4096, (D1 : Int) % 4096, (D2 : Nat), 0, 0⟩) := M3.out.below hb6
            have HB6 : Hid (Below W1.heap.size W1 w6) := HB5.out.trans (hb6.mono HB5.out.size)
            have c3 := M4.out.cells.2.2.2.1
            have f3 := M4.out.frozen 3
            clear hb6 HB5 M3
            have M5 : Hid (MdAt (w6.setCell ⟨Y, 3, none⟩ (.int .i64 (D3 : Nat))) Y ⟨(D1 : Int) / 4096, (D1 : Int) % 4096, (D2 : Nat), (D3 : Nat), 0⟩) := M4.out.set_g _
            have HB7 : Hid (Below W1.heap.size W1 (w6.setCell ⟨Y, 3, none⟩ (.int .i64 (D3 : Nat)))) := HB6.out.setCell (p := ⟨Y, 3, none⟩) HY.out _
            go_wp2_with fail
            clear c3 f3 M4 HB6
            generalize w6.setCell ⟨Y, 3, none⟩ (.int .i64 (D3 : Nat)) = w7 at *
            refine (refGet_octs5 _ ((P.drop 14).take 4) w7 (HSL.out _ HB7.out).2.2.2).mono ?_
            rintro e w8 ⟨rfl, hb8⟩
            rw [HD.out.2.2.2]
            have M6 : Hid (MdAt w8 Y ⟨(D1 : Int) / 4096, (D1 : Int) % 4096, (D2 : Nat), (D3 : Nat), 0⟩) := M5.out.below hb8
            have HB8 : Hid (Below W1.heap.size W1 w8) := HB7.out.trans (hb8.mono HB7.out.size)
            have c4 := M6.out.cells.2.2.2.2
            have f4 := M6.out.frozen 4
            clear hb8 HB7 M5
            have M7 : Hid (MdAt (w8.setCell ⟨Y, 4, none⟩ (.int .u32 (D4 : Nat))) Y ⟨(D1 : Int) / 4096, (D1 : Int) % 4096, (D2 : Nat), (D3 : Nat), D4⟩) := M6.out.set_u _
            have HB9 : Hid (Below W1.heap.size W1 (w8.setCell ⟨Y, 4, none⟩ (.int .u32 (D4 : Nat)))) := HB8.out.setCell (p := ⟨Y, 4, none⟩) HY.out _
            obtain ⟨m0, m1, m2, m3, m4⟩ := M7.out.cells
            have HBR : Hid (Below wr.heap.size wr (w8.setCell ⟨Y, 4, none⟩ (.int .u32 (D4 : Nat)))) := HBW.out.trans (HB9.out.mono HBW.out.size)
            have HOR : Hid ((w8.setCell ⟨Y, 4, none⟩ (.int .u32 (D4 : Nat))).ownsRow w.heap.size 41 5 u7 k (ecells encM (listG zs k))) := own_below11 HO.out HBR.out
            have HBB : Hid (Below w.heap.size w (w8.setCell ⟨Y, 4, none⟩ (.int .u32 (D4 : Nat)))) := HB.out.trans (HBR.out.mono HB.out.size)
            have HNE : Hid (w.heap.size ≤ (w8.setCell ⟨Y, 4, none⟩ (.int .u32 (D4 : Nat))).heap.size) := HBB.out.size
            have HLN : Hid ((listG zs k).length = k) := listG_length _ _
            clear HB8 M6 HB HO HB9 HBR HBW
            go_wp2_with (at_builtin; refine wpList_append_els encM_ok _ rfl _ _ 22 rfl w.heap.size 41 i0 _ 40 Try.underlying22 hi hz0 rfl hz1 hz2 (by decide) _ k (listG zs k) rfl (own_below11 HOR.out ((Below.refl _ _).alloc (Nat.le_refl _) _)) _ [⟨(D1 : Int) / 4096, (D1 : Int) % 4096, (D2 : Nat), (D3 : Nat), D4⟩] rfl (els_one11 (by simp)) ?d1 ?d2 ?_)
            case d1 => have := HK33.out; simp only [List.length_cons, List.length_nil]; omega
            case d2 => exact Nat.le_trans HNE.out (by simp)
            intro v9 w9 hown hg _
            rw [← HLS.out] at hown
            have R1 : Hid (w9.ownsRow w.heap.size 41 5 v9 (k + 1) (ecells encM (listG zs (k + 1)))) := hown
            have R2 : Hid (Below w.heap.size w w9) := HBB.out.trans ((Below.refl w.heap.size _).alloc HNE.out _ |>.trans (below_grownK (own_below11 HOR.out ((Below.refl _ _).alloc (Nat.le_refl _) _)) hg (Nat.le_trans HNE.out (by simp))))
            clear hown hg HOR HBB HNE HLN M7 m0 m1 m2 m3 m4 c4 f4 HLS
            go_wp2
            go_roundw
            case rel => exact ⟨k + 1, by go_num, by omega, R1.out, R2.out⟩
            case measure => simp [intOf]; omega
          · obtain rfl : k = K := by omega
            have HOL : Hid (Els encM 5 wr u7 (listG zs k)) := Els.ofOwn encM_ok HO.out
            have HLL : Hid ((listG zs k).length = k) := listG_length _ _
            have HGM : Hid (∀ b, rightM n (listG zs k) = b → getM n zs = if b = true then some (listG zs k) else none) := fun b hb => by
              unfold getM
              rw [HC.out, hb]
              cases b <;> simp [HFT.out]
            have HRT : Hid (Calls Try.prog 11 #[.int .i64 n, u7] wr fun e w' => e = .returned (.bool (rightM n (listG zs k))) ∧ Below wr.heap.size wr w') := refRight11_any wr u7 (listG zs k) n HOL.out (by have := HK33.out; rw [HLL.out]; omega)
            obtain ⟨R, hR⟩ : ∃ R, rightM n (listG zs k) = R := ⟨_, rfl⟩
            rw [hR] at HRT
            have HG := HGM.out R hR
            have w1e : IntKind.i64.wrap (18 * (k : Int)) = 18 * (k : Int) := by rw [IntKind.wrap_i64]; omega
            have w2e : IntKind.i64.wrap (4 + 18 * (k : Int)) = 4 + 18 * (k : Int) := by rw [IntKind.wrap_i64]; omega
            clear HGM hR HO
            go_wp2_with fail
            refine HRT.out.mono ?_
            rintro e w5 ⟨rfl, hb5⟩
            have HB5 : Hid (Below w.heap.size w w5) := HB.out.trans (hb5.mono HB.out.size)
            have HO5 : Hid (Els encM 5 w5 u7 (listG zs k)) := HOL.out.kept hb5
            clear hb5 HOL HRT
            cases R
            · have HG2 : Hid (getM n zs = none) := HG
              clear HG
              go_wp2
              refine bodyPost_ret (results_tmp2 rfl _ _ _) rfl ?_
              rw [HG2.out]
              exact ⟨.slice none 0 0, rfl, Els.nil _, HB5.out⟩
            · have HG2 : Hid (getM n zs = some (listG zs k)) := HG
              clear HG
              go_wp2
              refine bodyPost_ret (results_tmp2 rfl _ _ _) rfl ?_
              have HAC : Hid (ansC (some (listG zs k)) = 4 + 18 * (k : Int)) := by
                have h9 : ansC (some (listG zs k)) = 4 + 18 * ((listG zs k).length : Int) := rfl
                rw [HLL.out] at h9
                exact h9
              rw [HG2.out, HAC.out]
              exact ⟨u7, rfl, HO5.out, HB5.out⟩
end Go.Proofs.Ytfclhehpbniapaa
