/- Contract of 'Newest'. -/
import Derived.Test.YtgbibhbmcbbbhaaDoorWalkTwo5
namespace Go.Proofs.YtgbibhbmcbbbhaaDoor
open Go.RowKit
set_option linter.unusedVariables false

def stepN (N : Sup) (o : Option Sup) (k : Int) : Sup := match o with
  | some s => if s.gen % 2 = k ∧ N.gen < s.gen then s else N
  | none => N
def partL (zs : List Nat) (k : Nat) : List Nat := ((twoL zs).drop (k * 128)).take 128
def newN (zs : List Nat) : Nat → Sup
  | 0 => Sup.zero
  | k + 1 => stepN (newN zs k) (toldS (partL zs k)) k
theorem partL_length (zs : List Nat) (k : Nat) (hk : k < 2) : (partL zs k).length = 128 := by
  unfold partL; rw [List.length_take, List.length_drop, twoL_length]; omega
theorem partL_small {zs : List Nat} (h : ∀ z ∈ zs, z < 256) (k : Nat) : ∀ z ∈ partL zs k, z < 256 := small_part (twoL_small h) _ _
theorem idx_two (zs : List Nat) (k : Nat) (hk : k < 2) (w : World) : (Instr.index 50 (.agg (u8s (twoL zs)).toArray) (.int .i64 (k : Nat))).run Tryd.prog w = .ok (.agg (u8s (partL zs k)).toArray) w := by
  rw [run_index_agg w (u8s (twoL zs)).toArray k Tryd.underlying50 Tryd.underlying43 Tryd.size43 hk, u8s_extract, show k * 128 + 128 - k * 128 = 128 by omega]
  rfl
theorem told_gen {zs : List Nat} {s : Sup} (h : toldS zs = some s) : 1 ≤ s.gen ∧ s.gen ≤ 281474976710656 := (okS_right.1 (toldS_some h).1).gen

theorem setCells_nest (W : World) (b : Nat) (s' : Sup) : W.setCells b 0 s'.cl = ((((((((W.setCell ⟨b, 0, none⟩ (.int .i64 s'.gen)).setCell ⟨b, 1, none⟩ (.int .i64 s'.journal)).setCell ⟨b, 2, none⟩ (.int .i64 s'.area)).setCell ⟨b, 3, none⟩ (.int .i64 s'.which)).setCell ⟨b, 4, none⟩ (.int .i64 s'.len)).setCell ⟨b, 5, none⟩ (.int .u32 s'.sum)).setCell ⟨b, 6, none⟩ (.int .i64 s'.epoch)).setCell ⟨b, 7, none⟩ (.int .i64 s'.start)) := rfl
theorem sup_loadN {W : World} {b : Nat} {s : Sup} (h : SupAt W b s) (s' : Sup) : (loadVar 24 ⟨b, 0, none⟩).run Tryd.prog ((((((((W.setCell ⟨b, 0, none⟩ (.int .i64 s'.gen)).setCell ⟨b, 1, none⟩ (.int .i64 s'.journal)).setCell ⟨b, 2, none⟩ (.int .i64 s'.area)).setCell ⟨b, 3, none⟩ (.int .i64 s'.which)).setCell ⟨b, 4, none⟩ (.int .i64 s'.len)).setCell ⟨b, 5, none⟩ (.int .u32 s'.sum)).setCell ⟨b, 6, none⟩ (.int .i64 s'.epoch)).setCell ⟨b, 7, none⟩ (.int .i64 s'.start)).drew = .ok (sval s') ((((((((W.setCell ⟨b, 0, none⟩ (.int .i64 s'.gen)).setCell ⟨b, 1, none⟩ (.int .i64 s'.journal)).setCell ⟨b, 2, none⟩ (.int .i64 s'.area)).setCell ⟨b, 3, none⟩ (.int .i64 s'.which)).setCell ⟨b, 4, none⟩ (.int .i64 s'.len)).setCell ⟨b, 5, none⟩ (.int .u32 s'.sum)).setCell ⟨b, 6, none⟩ (.int .i64 s'.epoch)).setCell ⟨b, 7, none⟩ (.int .i64 s'.start)).drew := by
  rw [← setCells_nest]
  exact run_loadVar_mid (P := Tryd.prog) _ b 0 24 s'.cl _ ((World.rangeAt_drew _ _ _ _).2 (World.rangeAt_setCells_same W b 0 s'.cl h.there)) Tryd.underlying24 rfl Tryd.sizeS5
theorem below_nest {B b : Nat} {a W : World} (h : Below B a W) (hb : B ≤ b) (s' : Sup) : Below B a ((((((((W.setCell ⟨b, 0, none⟩ (.int .i64 s'.gen)).setCell ⟨b, 1, none⟩ (.int .i64 s'.journal)).setCell ⟨b, 2, none⟩ (.int .i64 s'.area)).setCell ⟨b, 3, none⟩ (.int .i64 s'.which)).setCell ⟨b, 4, none⟩ (.int .i64 s'.len)).setCell ⟨b, 5, none⟩ (.int .u32 s'.sum)).setCell ⟨b, 6, none⟩ (.int .i64 s'.epoch)).setCell ⟨b, 7, none⟩ (.int .i64 s'.start)).drew := by
  rw [← setCells_nest]; exact (below_setCells h hb 0 _).drew

set_option maxHeartbeats 1000000 in
set_option maxRecDepth 20000 in
theorem newest5 (v : Value) (zs : List Nat) (w : World) (h : Octs w v zs) (ht : Steps w) : Calls Tryd.prog 15 #[v] w fun e w' => e = .returned (.tuple #[sval (newN zs 2), .bool (decide (0 < (newN zs 2).gen))]) ∧ Below w.heap.size w w' := by
  have HO : Hid (Octs w v zs) := h
  have HT : Hid (Steps w) := ht
  obtain ⟨a, cap, rfl⟩ := h.shape
  clear h ht
  have W1 : Hid (Below w.heap.size w ((w.alloc (.cells Sup.zero.cl.toArray 24)).alloc (.cells Sup.zero.cl.toArray 24))) := ((Below.refl _ _).alloc (Nat.le_refl _) _).alloc (by simp) _
  have W2 : Hid (SupAt ((w.alloc (.cells Sup.zero.cl.toArray 24)).alloc (.cells Sup.zero.cl.toArray 24)) w.heap.size Sup.zero) := SupAt.same (B := w.heap.size + 1) (heap_alloc_new w _) ((Below.refl _ _).alloc (by simp) _) (by omega)
  have W3 : Hid (SupAt ((w.alloc (.cells Sup.zero.cl.toArray 24)).alloc (.cells Sup.zero.cl.toArray 24)) (w.heap.size + 1) Sup.zero) := by
    have := heap_alloc_new (w.alloc (.cells Sup.zero.cl.toArray 24)) (.cells Sup.zero.cl.toArray 24)
    rwa [show (w.alloc (.cells Sup.zero.cl.toArray 24)).heap.size = w.heap.size + 1 by simp] at this
  have HN0 : Hid (newN zs 0 = Sup.zero) := rfl
  have HNS : Hid (∀ k : Nat, newN zs (k + 1) = stepN (newN zs k) (toldS (partL zs k)) k) := fun _ => rfl
  have HPL : Hid (∀ k, k < 2 → (partL zs k).length = 128) := partL_length zs
  have HPS : Hid (∀ k, ∀ z ∈ partL zs k, z < 256) := partL_small HO.out.small
  have HID : Hid (∀ (k : Nat) (hk : k < 2) (w : World), (Instr.index 50 (.agg (u8s (twoL zs)).toArray) (.int .i64 (k : Nat))).run Tryd.prog w = .ok (.agg (u8s (partL zs k)).toArray) w) := idx_two zs
  have hz43 := Tryd.zero43
  obtain ⟨Z1, hZ1⟩ : ∃ Z, Z = zl 128 := ⟨_, rfl⟩
  rw [← hZ1] at hz43
  have HZL : Hid (Z1.length = 128) := by unfold Hid; rw [hZ1, zl_length]
  clear hZ1
  generalize newN zs = N at *
  go_enter Tryd.func15, Tryd.ntmps15
  go_wp2_with fail
  refine (two5 _ zs _ (HO.out.kept W1.out)).mono ?_
  rintro e w1 ⟨rfl, hb1⟩
  have F0 : Hid (SupAt w1 w.heap.size Sup.zero) := W2.out.same hb1 W2.out.lt
  have F1 : Hid (SupAt w1 (w.heap.size + 1) Sup.zero) := W3.out.same hb1 W3.out.lt
  have HB1 : Hid (Below w.heap.size w w1) := W1.out.trans (hb1.mono W1.out.size)
  clear hb1 W1 W2 W3
  go_wp2_with fail
  go_loopw [12] (fun i wr => ∃ k : Nat, k ≤ 2 ∧ i = .int .i64 k ∧ Hid (SupAt wr (w.heap.size + 1) (N k)) ∧ Hid (SupAt wr w.heap.size Sup.zero) ∧ Hid (Below w.heap.size w wr)) (fun i _ => 2 - (intOf i).toNat)
  case atStart => exact ⟨0, by omega, rfl, by rw [HN0.out]; exact F1.out, F0.out, HB1.out⟩
  case round =>
    obtain ⟨k, hk, rfl, G1, G0, GB⟩ := hrel
    by_cases h2 : k < 2
    · have hidx := HID.out k h2 wr
      have HTr : Hid (Steps (wr.alloc (.cells (u8s (partL zs k)).toArray 43))) := (HT.out.below GB.out).alloc _
      have HP : Hid ((partL zs k).length = 128) := HPL.out k h2
      have HS : Hid (∀ z ∈ partL zs k, z < 256) := HPS.out k
      have HNk : Hid (N (k + 1) = stepN (N k) (toldS (partL zs k)) k) := HNS.out k
      generalize partL zs k = P at *
      go_wp2_with (first
        | ((with_reducible show wpList _ _ _ (Oper.mk _ (Op.store _ _ _) _ _ _ _ :: _) _ _); go_must (refine wpList_store_last5 rfl 43 _ _ rfl wr _ rfl (u8s P).toArray rfl rfl (by rw [List.size_toArray, u8s_length, HP.out]; exact Tryd.size43) (by rw [List.size_toArray, List.size_toArray, u8s_length, u8s_length, HP.out, HZL.out]) (all_oneCell_toArray (u8s_one P)) ?_))
        | ((with_reducible show wpList _ _ _ (Oper.mk _ (Op.load 43 _) _ _ _ _ :: _) _ _); go_must (refine wpList_load_mid rfl 43 _ rfl wr.heap.size 0 rfl (u8s P) _ (range_row (heap_alloc_new _ _)) Tryd.underlying43 rfl (by rw [u8s_length, HP.out]; exact Tryd.size43) ?_)))
      refine (told5 P HP.out HS.out _ HTr.out).mono ?_
      rintro e w4 ⟨rfl, hb4⟩
      have hsz : wr.heap.size < w4.heap.size := by have := hb4.size; simp at this; omega
      have hb4' : Below wr.heap.size wr w4 := ((Below.refl _ _).alloc (Nat.le_refl _) _).trans (hb4.mono (by simp))
      have J1 : Hid (SupAt w4 (w.heap.size + 1) (N k)) := G1.out.same hb4' G1.out.lt
      have J0 : Hid (SupAt w4 w.heap.size Sup.zero) := G0.out.same hb4' G0.out.lt
      have JB : Hid (Below w.heap.size w w4) := GB.out.trans (hb4'.mono GB.out.size)
      have hj1 : w.heap.size + 1 < w4.heap.size := J1.out.lt
      clear hb4 hb4' hidx HTr
      cases ho : toldS P with
      | none =>
        have HK : Hid (N (k + 1) = N k) := by unfold Hid; rw [HNk.out, ho]; rfl
        have HV : Hid (toldV none = .tuple #[.agg #[.int .i64 0, .int .i64 0, .int .i64 0, .int .i64 0, .int .i64 0, .int .u32 0, .int .i64 0, .int .i64 0], .bool false]) := rfl
        rw [HV.out]
        go_wp2
        go_roundw
        case rel => exact ⟨k + 1, by omega, by go_num, by rw [HK.out]; exact SupAt.same J1.out ((Below.refl _ _).alloc (Nat.le_refl _) _) hj1, SupAt.same J0.out ((Below.refl _ _).alloc (Nat.le_refl _) _) (by omega), JB.out.alloc (by omega) _⟩
        case measure => simp [intOf]; omega
      | some s =>
        have hg := told_gen ho
        have hm : s.gen.tmod 2 = s.gen % 2 := Int.tmod_eq_emod_of_nonneg (by omega)
        have HV : Hid (toldV (some s) = .tuple #[.agg #[.int .i64 s.gen, .int .i64 s.journal, .int .i64 s.area, .int .i64 s.which, .int .i64 s.len, .int .u32 s.sum, .int .i64 s.epoch, .int .i64 s.start], .bool true]) := rfl
        have HST : Hid (N (k + 1) = if s.gen % 2 = k ∧ (N k).gen < s.gen then s else N k) := by unfold Hid; rw [HNk.out, ho]; rfl
        have c1 := J1.out.cells.1
        have c2 : (w4.alloc (.cells #[.int .i64 s.gen, .int .i64 s.journal, .int .i64 s.area, .int .i64 s.which, .int .i64 s.len, .int .u32 s.sum, .int .i64 s.epoch, .int .i64 s.start] 24)).cell? ⟨w.heap.size + 1, 0, none⟩ = some (.int .i64 (N k).gen) := (World.cell?_alloc_past _ _ _ hj1).trans c1
        have L1 : Hid (SupAt (w4.alloc (.cells #[.int .i64 s.gen, .int .i64 s.journal, .int .i64 s.area, .int .i64 s.which, .int .i64 s.len, .int .u32 s.sum, .int .i64 s.epoch, .int .i64 s.start] 24)) (w.heap.size + 1) (N k)) := SupAt.same J1.out ((Below.refl _ _).alloc (Nat.le_refl _) _) hj1
        have L0 : Hid (SupAt (w4.alloc (.cells #[.int .i64 s.gen, .int .i64 s.journal, .int .i64 s.area, .int .i64 s.which, .int .i64 s.len, .int .u32 s.sum, .int .i64 s.epoch, .int .i64 s.start] 24)) w.heap.size Sup.zero) := SupAt.same J0.out ((Below.refl _ _).alloc (Nat.le_refl _) _) (by omega)
        have LB : Hid (Below w.heap.size w (w4.alloc (.cells #[.int .i64 s.gen, .int .i64 s.journal, .int .i64 s.area, .int .i64 s.which, .int .i64 s.len, .int .u32 s.sum, .int .i64 s.epoch, .int .i64 s.start] 24))) := JB.out.alloc (by omega) _
        rw [HV.out]
        clear c1 ho
        generalize hmm : s.gen % 2 = m at *
        by_cases hq : m = (k : Int)
        · by_cases hgt : (N k).gen < s.gen
          · have HK : Hid (N (k + 1) = s) := by unfold Hid; rw [HST.out, if_pos ⟨hq, hgt⟩]
            go_wp2_with ((with_reducible show wpList _ _ _ (Oper.mk _ (Op.store _ (Operand.tmp 4) _) _ _ _ _ :: _) _ _); go_must (refine wpList_store_mid rfl 24 _ _ rfl (w.heap.size + 1) 0 s.cl.toArray rfl rfl L1.out.there Tryd.sizeS5 s.cl_one ?_))
            go_wp2
            go_roundw
            case rel =>
              refine ⟨k + 1, by omega, by go_num, ?_, ?_, ?_⟩
              · rw [HK.out]; exact sup_set L1.out s
              · exact (heap_setCells _ _ _ _ _ (by omega)).trans L0.out
              · exact below_setCells LB.out (by omega) _ _
            case measure => simp [intOf]; omega
          · have HK : Hid (N (k + 1) = N k) := by unfold Hid; rw [HST.out, if_neg (fun h => hgt h.2)]
            have hgt' : s.gen ≤ (N k).gen := by omega
            go_wp2
            go_roundw
            case rel => exact ⟨k + 1, by omega, by go_num, by rw [HK.out]; exact L1.out, L0.out, LB.out⟩
            case measure => simp [intOf]; omega
        · have HK : Hid (N (k + 1) = N k) := by unfold Hid; rw [HST.out, if_neg (fun h => hq h.1)]
          go_wp2
          go_roundw
          case rel => exact ⟨k + 1, by omega, by go_num, by rw [HK.out]; exact L1.out, L0.out, LB.out⟩
          case measure => simp [intOf]; omega
    · obtain rfl : k = 2 := by omega
      obtain ⟨k0, k1, k2, k3, k4, k5, k6, k7⟩ := G1.out.cells
      obtain ⟨j0, j1, j2, j3, j4, j5, j6, j7⟩ := G0.out.cells
      have f0 := G0.out.frozen 0
      have f1 := G0.out.frozen 1
      have f2 := G0.out.frozen 2
      have f3 := G0.out.frozen 3
      have f4 := G0.out.frozen 4
      have f5 := G0.out.frozen 5
      have f6 := G0.out.frozen 6
      have f7 := G0.out.frozen 7
      go_wp2
      go_region
      all_goals
        go_wp2
        exact bodyPost_ret (v := .tuple #[sval (N 2), .bool (decide (0 < (N 2).gen))]) (results_cell2 rfl rfl rfl (sup_loadN G0.out (N 2))) rfl ⟨rfl, below_nest GB.out (Nat.le_refl _) (N 2)⟩

/-! ### As the document says it -/
theorem told_zeros : toldS (zl 128) = none := by
  have h : okS (readS (zl 128)) = false := by decide +kernel
  unfold toldS toldB
  rw [h]; rfl
theorem part_bad (zs : List Nat) (h : zs.length ≠ 256) (k : Nat) (hk : k < 2) : partL zs k = zl 128 := by
  have e : twoL zs = zl 256 := if_neg h
  unfold partL zl at *
  rw [e, List.drop_replicate, List.take_replicate]
  congr 1; omega
theorem newest_eq (zs : List Nat) : Value.tuple #[sval (newN zs 2), .bool (decide (0 < (newN zs 2).gen))] = toldV (newestS zs) := by
  have key : ∃ o, newestS zs = o ∧ newN zs 2 = o.getD Sup.zero ∧ decide (0 < (newN zs 2).gen) = o.isSome := by
    refine ⟨_, rfl, ?_⟩
    have e2 : newN zs 2 = stepN (stepN Sup.zero (toldS (partL zs 0)) 0) (toldS (partL zs 1)) 1 := rfl
    by_cases h : zs.length = 256
    · have et : twoL zs = zs := if_pos h
      have p0 : partL zs 0 = zs.take 128 := by unfold partL; rw [et]; simp
      have p1 : partL zs 1 = zs.drop 128 := by unfold partL; rw [et, Nat.one_mul]; exact List.take_of_length_le (by rw [List.length_drop]; omega)
      rw [e2, p0, p1]
      unfold newestS
      rw [if_pos h]
      cases hx : toldS (zs.take 128) with
      | none =>
        cases hy : toldS (zs.drop 128) with
        | none => simp [stepN, pickS, evenS, oddS, Sup.zero]
        | some y =>
          have gy := told_gen hy
          by_cases h1 : y.gen % 2 = 1
          · have : (0 : Int) < y.gen := by omega
            simp [stepN, pickS, evenS, oddS, Sup.zero, h1, this]
          · simp [stepN, pickS, evenS, oddS, Sup.zero, h1]
      | some x =>
        have gx := told_gen hx
        have px : (0 : Int) < x.gen := by omega
        cases hy : toldS (zs.drop 128) with
        | none =>
          by_cases h0 : x.gen % 2 = 0
          · simp [stepN, pickS, evenS, oddS, Sup.zero, h0, px]
          · simp [stepN, pickS, evenS, oddS, Sup.zero, h0]
        | some y =>
          have gy := told_gen hy
          have py : (0 : Int) < y.gen := by omega
          by_cases h0 : x.gen % 2 = 0
          · by_cases h1 : y.gen % 2 = 1
            · by_cases h2 : y.gen < x.gen
              · have h3 : ¬ x.gen < y.gen := by omega
                simp [stepN, pickS, evenS, oddS, Sup.zero, h0, h1, h2, h3, px]
              · have h3 : x.gen < y.gen := by omega
                simp [stepN, pickS, evenS, oddS, Sup.zero, h0, h1, h2, h3, px, py]
            · simp [stepN, pickS, evenS, oddS, Sup.zero, h0, h1, px]
          · by_cases h1 : y.gen % 2 = 1
            · simp [stepN, pickS, evenS, oddS, Sup.zero, h0, h1, py]
            · simp [stepN, pickS, evenS, oddS, Sup.zero, h0, h1]
    · rw [e2, part_bad zs h 0 (by decide), part_bad zs h 1 (by decide), told_zeros]
      unfold newestS
      rw [if_neg h]
      simp [stepN, Sup.zero]
  obtain ⟨o, h1, h2, h3⟩ := key
  rw [h3, h1, h2]; rfl
theorem newest_v (v : Value) (zs : List Nat) (w : World) (h : Octs w v zs) (ht : Steps w) : Calls Tryd.prog 15 #[v] w fun e w' => e = .returned (toldV (newestS zs)) ∧ Below w.heap.size w w' := by
  rw [← newest_eq]; exact newest5 v zs w h ht
end Go.Proofs.YtgbibhbmcbbbhaaDoor
