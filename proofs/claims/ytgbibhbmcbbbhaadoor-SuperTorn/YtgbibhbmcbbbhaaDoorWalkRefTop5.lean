/- The document's Top: its contract. (Written by wip/mk_reftop5.py.) -/
import Derived.Test.YtgbibhbmcbbbhaaDoorWalkRefNew5
namespace Go.Proofs.YtgbibhbmcbbbhaaDoor
open Go.RowKit
set_option linter.unusedVariables false

def atK : Nat → Nat
  | 0 => 4
  | 1 => 116
  | 2 => 132
  | _ => 244
def topR (zs : List Nat) : Nat → Int
  | 0 => 0
  | k + 1 => topStep (topR zs k) (genAt zs (atK k))

set_option maxHeartbeats 1000000 in
set_option maxRecDepth 20000 in
theorem refTop5 (zs : List Nat) (hz : ∀ z ∈ zs, z < 256) (hl : zs.length ≤ 100000) (w : World) : Calls Tryd.prog 18 #[.string (strN zs)] w fun e w' => e = .returned (.int .i64 (topS zs)) ∧ Below w.heap.size w w' := by
  have hsz := strN_size zs
  by_cases hn : zs.length = 256
  · rw [hn] at hsz
    have HTS : Hid (topS zs = topR zs 4) := if_pos hn
    have HT0 : Hid (topR zs 0 = 0) := rfl
    have HT1 : Hid (topR zs 1 = topStep (topR zs 0) (genAt zs 4)) := rfl
    have hx0 := strN_cut zs 4 12
    have HE0 : Hid (getO ((zs.drop 4).take (12 - 4)) = genAt zs 4) := rfl
    have HL0 : Hid (((zs.drop 4).take (12 - 4)).length = 8) := by unfold Hid; rw [List.length_take, List.length_drop, hn]; decide
    have HS0 : Hid (∀ z ∈ (zs.drop 4).take (12 - 4), z < 256) := small_part hz _ _
    generalize (zs.drop 4).take (12 - 4) = P0 at *
    have HK0 : Hid (∀ (W : World), Octs (Lib.bytesWorld W 5 (strN P0)) (.slice (some ⟨W.heap.size, 0, none⟩) 8 (grownCap W 8 0 5)) P0 ∧ Below W.heap.size W (Lib.bytesWorld W 5 (strN P0))) := fun W => (back_at P0 8 HL0.out HS0.out (by decide) W _ rfl).2
    have hc0 : ∀ W : World, (convert 9 26 (.string (strN P0))).run Tryd.prog W = .ok (.slice (some ⟨W.heap.size, 0, none⟩) 8 (grownCap W 8 0 5)) (Lib.bytesWorld W 5 (strN P0)) := fun W => (back_at P0 8 HL0.out HS0.out (by decide) W _ rfl).1
    have HT2 : Hid (topR zs 2 = topStep (topR zs 1) (genAt zs 116)) := rfl
    have hx1 := strN_cut zs 116 124
    have HE1 : Hid (getO ((zs.drop 116).take (124 - 116)) = genAt zs 116) := rfl
    have HL1 : Hid (((zs.drop 116).take (124 - 116)).length = 8) := by unfold Hid; rw [List.length_take, List.length_drop, hn]; decide
    have HS1 : Hid (∀ z ∈ (zs.drop 116).take (124 - 116), z < 256) := small_part hz _ _
    generalize (zs.drop 116).take (124 - 116) = P1 at *
    have HK1 : Hid (∀ (W : World), Octs (Lib.bytesWorld W 5 (strN P1)) (.slice (some ⟨W.heap.size, 0, none⟩) 8 (grownCap W 8 0 5)) P1 ∧ Below W.heap.size W (Lib.bytesWorld W 5 (strN P1))) := fun W => (back_at P1 8 HL1.out HS1.out (by decide) W _ rfl).2
    have hc1 : ∀ W : World, (convert 9 26 (.string (strN P1))).run Tryd.prog W = .ok (.slice (some ⟨W.heap.size, 0, none⟩) 8 (grownCap W 8 0 5)) (Lib.bytesWorld W 5 (strN P1)) := fun W => (back_at P1 8 HL1.out HS1.out (by decide) W _ rfl).1
    have HT3 : Hid (topR zs 3 = topStep (topR zs 2) (genAt zs 132)) := rfl
    have hx2 := strN_cut zs 132 140
    have HE2 : Hid (getO ((zs.drop 132).take (140 - 132)) = genAt zs 132) := rfl
    have HL2 : Hid (((zs.drop 132).take (140 - 132)).length = 8) := by unfold Hid; rw [List.length_take, List.length_drop, hn]; decide
    have HS2 : Hid (∀ z ∈ (zs.drop 132).take (140 - 132), z < 256) := small_part hz _ _
    generalize (zs.drop 132).take (140 - 132) = P2 at *
    have HK2 : Hid (∀ (W : World), Octs (Lib.bytesWorld W 5 (strN P2)) (.slice (some ⟨W.heap.size, 0, none⟩) 8 (grownCap W 8 0 5)) P2 ∧ Below W.heap.size W (Lib.bytesWorld W 5 (strN P2))) := fun W => (back_at P2 8 HL2.out HS2.out (by decide) W _ rfl).2
    have hc2 : ∀ W : World, (convert 9 26 (.string (strN P2))).run Tryd.prog W = .ok (.slice (some ⟨W.heap.size, 0, none⟩) 8 (grownCap W 8 0 5)) (Lib.bytesWorld W 5 (strN P2)) := fun W => (back_at P2 8 HL2.out HS2.out (by decide) W _ rfl).1
    have HT4 : Hid (topR zs 4 = topStep (topR zs 3) (genAt zs 244)) := rfl
    have hx3 := strN_cut zs 244 252
    have HE3 : Hid (getO ((zs.drop 244).take (252 - 244)) = genAt zs 244) := rfl
    have HL3 : Hid (((zs.drop 244).take (252 - 244)).length = 8) := by unfold Hid; rw [List.length_take, List.length_drop, hn]; decide
    have HS3 : Hid (∀ z ∈ (zs.drop 244).take (252 - 244), z < 256) := small_part hz _ _
    generalize (zs.drop 244).take (252 - 244) = P3 at *
    have HK3 : Hid (∀ (W : World), Octs (Lib.bytesWorld W 5 (strN P3)) (.slice (some ⟨W.heap.size, 0, none⟩) 8 (grownCap W 8 0 5)) P3 ∧ Below W.heap.size W (Lib.bytesWorld W 5 (strN P3))) := fun W => (back_at P3 8 HL3.out HS3.out (by decide) W _ rfl).2
    have hc3 : ∀ W : World, (convert 9 26 (.string (strN P3))).run Tryd.prog W = .ok (.slice (some ⟨W.heap.size, 0, none⟩) 8 (grownCap W 8 0 5)) (Lib.bytesWorld W 5 (strN P3)) := fun W => (back_at P3 8 HL3.out HS3.out (by decide) W _ rfl).1
    generalize topR zs = T at *
    clear hz hl hn
    rw [HTS.out]
    go_enter Tryd.func18, Tryd.ntmps18
    go_wp2_with fail
    go_loopw [3, 4] (fun t i wr => ∃ k : Nat, k ≤ 4 ∧ i = .int .i64 k ∧ t = .int .i64 (T k) ∧ Hid (Below w.heap.size w wr)) (fun _ i _ => 4 - (intOf i).toNat)
    case atStart => exact ⟨0, by omega, rfl, by rw [HT0.out], Below.refl _ _⟩
    case round =>
      obtain ⟨k, hk, rfl, rfl, GB⟩ := hrel
      have hk' : k = 0 ∨ k = 1 ∨ k = 2 ∨ k = 3 ∨ k = 4 := by omega
      rcases hk' with rfl | rfl | rfl | rfl | rfl
      · have ea : IntKind.i64.wrap 0 = 0 := by decide
        have eb : IntKind.i64.wrap 4 = 4 := by decide
        have ec : IntKind.i64.wrap 4 = 4 := by decide
        have ed : IntKind.i64.wrap 12 = 12 := by decide
        go_wp2_with fail
        refine (refGet_octs5 _ P0 (Lib.bytesWorld wr 5 (strN P0)) (HK0.out wr).1).mono ?_
        rintro e w2 ⟨rfl, hb⟩
        rw [HE0.out]
        have HB2 : Hid (Below w.heap.size w w2) := GB.out.trans (((HK0.out wr).2.trans (hb.mono (HK0.out wr).2.size)).mono GB.out.size)
        clear hb
        generalize genAt zs 4 = n at *
        by_cases hmax : T 0 < n
        · by_cases h48 : n ≤ 281474976710656
          · have HJe : Hid (T 1 = n) := by unfold Hid; rw [HT1.out, topStep, if_pos h48, if_pos hmax]
            go_wp2
            go_roundw
            case rel => exact ⟨1, by omega, by go_num, by rw [HJe.out], HB2.out⟩
            case measure => simp [intOf]
          · have HJe : Hid (T 1 = T 0) := by unfold Hid; rw [HT1.out, topStep, if_neg h48]
            go_wp2
            go_roundw
            case rel => exact ⟨1, by omega, by go_num, by rw [HJe.out], HB2.out⟩
            case measure => simp [intOf]
        · have HJe : Hid (T 1 = T 0) := by
            unfold Hid; rw [HT1.out, topStep, if_neg hmax]
            split <;> rfl
          go_wp2
          go_roundw
          case rel => exact ⟨1, by omega, by go_num, by rw [HJe.out], HB2.out⟩
          case measure => simp [intOf]
      · have ea : IntKind.i64.wrap 0 = 0 := by decide
        have eb : IntKind.i64.wrap 4 = 4 := by decide
        have ec : IntKind.i64.wrap 116 = 116 := by decide
        have ed : IntKind.i64.wrap 124 = 124 := by decide
        go_wp2_with fail
        refine (refGet_octs5 _ P1 (Lib.bytesWorld wr 5 (strN P1)) (HK1.out wr).1).mono ?_
        rintro e w2 ⟨rfl, hb⟩
        rw [HE1.out]
        have HB2 : Hid (Below w.heap.size w w2) := GB.out.trans (((HK1.out wr).2.trans (hb.mono (HK1.out wr).2.size)).mono GB.out.size)
        clear hb
        generalize genAt zs 116 = n at *
        by_cases hmax : T 1 < n
        · by_cases h48 : n ≤ 281474976710656
          · have HJe : Hid (T 2 = n) := by unfold Hid; rw [HT2.out, topStep, if_pos h48, if_pos hmax]
            go_wp2
            go_roundw
            case rel => exact ⟨2, by omega, by go_num, by rw [HJe.out], HB2.out⟩
            case measure => simp [intOf]
          · have HJe : Hid (T 2 = T 1) := by unfold Hid; rw [HT2.out, topStep, if_neg h48]
            go_wp2
            go_roundw
            case rel => exact ⟨2, by omega, by go_num, by rw [HJe.out], HB2.out⟩
            case measure => simp [intOf]
        · have HJe : Hid (T 2 = T 1) := by
            unfold Hid; rw [HT2.out, topStep, if_neg hmax]
            split <;> rfl
          go_wp2
          go_roundw
          case rel => exact ⟨2, by omega, by go_num, by rw [HJe.out], HB2.out⟩
          case measure => simp [intOf]
      · have ea : IntKind.i64.wrap 128 = 128 := by decide
        have eb : IntKind.i64.wrap 132 = 132 := by decide
        have ec : IntKind.i64.wrap 132 = 132 := by decide
        have ed : IntKind.i64.wrap 140 = 140 := by decide
        go_wp2_with fail
        refine (refGet_octs5 _ P2 (Lib.bytesWorld wr 5 (strN P2)) (HK2.out wr).1).mono ?_
        rintro e w2 ⟨rfl, hb⟩
        rw [HE2.out]
        have HB2 : Hid (Below w.heap.size w w2) := GB.out.trans (((HK2.out wr).2.trans (hb.mono (HK2.out wr).2.size)).mono GB.out.size)
        clear hb
        generalize genAt zs 132 = n at *
        by_cases hmax : T 2 < n
        · by_cases h48 : n ≤ 281474976710656
          · have HJe : Hid (T 3 = n) := by unfold Hid; rw [HT3.out, topStep, if_pos h48, if_pos hmax]
            go_wp2
            go_roundw
            case rel => exact ⟨3, by omega, by go_num, by rw [HJe.out], HB2.out⟩
            case measure => simp [intOf]
          · have HJe : Hid (T 3 = T 2) := by unfold Hid; rw [HT3.out, topStep, if_neg h48]
            go_wp2
            go_roundw
            case rel => exact ⟨3, by omega, by go_num, by rw [HJe.out], HB2.out⟩
            case measure => simp [intOf]
        · have HJe : Hid (T 3 = T 2) := by
            unfold Hid; rw [HT3.out, topStep, if_neg hmax]
            split <;> rfl
          go_wp2
          go_roundw
          case rel => exact ⟨3, by omega, by go_num, by rw [HJe.out], HB2.out⟩
          case measure => simp [intOf]
      · have ea : IntKind.i64.wrap 128 = 128 := by decide
        have eb : IntKind.i64.wrap 132 = 132 := by decide
        have ec : IntKind.i64.wrap 244 = 244 := by decide
        have ed : IntKind.i64.wrap 252 = 252 := by decide
        go_wp2_with fail
        refine (refGet_octs5 _ P3 (Lib.bytesWorld wr 5 (strN P3)) (HK3.out wr).1).mono ?_
        rintro e w2 ⟨rfl, hb⟩
        rw [HE3.out]
        have HB2 : Hid (Below w.heap.size w w2) := GB.out.trans (((HK3.out wr).2.trans (hb.mono (HK3.out wr).2.size)).mono GB.out.size)
        clear hb
        generalize genAt zs 244 = n at *
        by_cases hmax : T 3 < n
        · by_cases h48 : n ≤ 281474976710656
          · have HJe : Hid (T 4 = n) := by unfold Hid; rw [HT4.out, topStep, if_pos h48, if_pos hmax]
            go_wp2
            go_roundw
            case rel => exact ⟨4, by omega, by go_num, by rw [HJe.out], HB2.out⟩
            case measure => simp [intOf]
          · have HJe : Hid (T 4 = T 3) := by unfold Hid; rw [HT4.out, topStep, if_neg h48]
            go_wp2
            go_roundw
            case rel => exact ⟨4, by omega, by go_num, by rw [HJe.out], HB2.out⟩
            case measure => simp [intOf]
        · have HJe : Hid (T 4 = T 3) := by
            unfold Hid; rw [HT4.out, topStep, if_neg hmax]
            split <;> rfl
          go_wp2
          go_roundw
          case rel => exact ⟨4, by omega, by go_num, by rw [HJe.out], HB2.out⟩
          case measure => simp [intOf]
      · go_wp2
        go_ret
        exact ⟨rfl, GB.out⟩
  · have HV : Hid (topS zs = 0) := if_neg hn
    have hn' : ¬ (zs.length : Int) = 256 := by omega
    rw [HV.out]
    go_enter Tryd.func18, Tryd.ntmps18
    go_wp2
    go_ret
    exact ⟨rfl, Below.refl _ _⟩
end Go.Proofs.YtgbibhbmcbbbhaaDoor
