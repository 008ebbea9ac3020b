/- The document's Put: its contract. -/
import Derived.Test.YtgbibhbmcbbbhaaDoorRefOct5
namespace Go.Proofs.YtgbibhbmcbbbhaaDoor
open Go.RowKit
set_option linter.unusedVariables false

theorem str_moth : (⟨#[77, 79, 84, 72]⟩ : ByteArray) = strN [77, 79, 84, 72] := by decide +kernel
def preK (s : Sup) (k : Nat) : List Nat := [77, 79, 84, 72] ++ fldK s k
theorem preK_zero (s : Sup) : preK s 0 = [77, 79, 84, 72] ++ octZ s.gen 8 := by unfold preK; rw [fldK_zero]
theorem preK_succ (s : Sup) (k : Nat) (n : Int) (h : (numsS s)[k]? = some n) : preK s (k + 1) = preK s k ++ octZ n 4 := by
  unfold preK; rw [fldK_succ s k n h, List.append_assoc]
theorem preK_all (s : Sup) : preK s 7 = [77, 79, 84, 72] ++ fieldsN s := rfl
theorem preK_len (s : Sup) (k : Nat) (hk : k ≤ 7) : (preK s k).length ≤ 100010 := by
  have := fldK_len s k hk
  simp [preK]; omega
theorem body_pre (s : Sup) : (preK s 7 ++ zl 76) ++ octZ s.gen 8 = body s := by rw [preK_all]; simp [body, zl]

theorem made_u8 (n : Nat) : madeCells (Value.int .u8 0).cells n = (u8s (zl n)).toArray := by
  rw [← rep_u8s]
  apply Array.ext
  · simp [madeCells]
  · intro i h1 h2
    simp [madeCells, Value.cells, Nat.mod_one]
theorem Tryd.make5 (n : Nat) (hn : n ≤ 1000) (W : World) : (Instr.makeSlice 26 (.int .i64 (n : Nat)) (.int .i64 (n : Nat))).run Tryd.prog W = .ok (.slice (some ⟨W.heap.size, 0, none⟩) n n) (W.alloc (.cells (u8s (zl n)).toArray 5)) := by
  obtain ⟨i0, hi, hz0, hz1, hz2⟩ := info_parts Tryd.infoU8'
  have := run_make (P := Tryd.prog) W 26 5 i0 _ Tryd.underlying26 hi hz0 .i64 .i64 (n : Nat) (n : Nat) (by omega) (by omega) (by rw [hz2]; omega) (by omega)
  rw [this, hz1, Nat.mul_one, Int.toNat_natCast, made_u8]

set_option maxHeartbeats 1000000 in
set_option maxRecDepth 20000 in
theorem refPut5 (s : Sup) (hf : s.Fits) (w : World) : Calls Tryd.prog 13 #[sval s] w fun e w' => e = .returned (.string (strN (sect s))) ∧ Below w.heap.size w w' := by
  have hsum := hf.sum
  have eu : IntKind.i64.wrap s.sum = s.sum := by rw [IntKind.wrap_i64]; omega
  clear hf
  go_enter Tryd.func13, Tryd.ntmps13
  go_wp2_with fail
  refine (refLay_octs5 s.gen 8 _).mono ?_
  rintro e w1 ⟨v1, rfl, _, hcv1, hb1⟩
  rw [show cl 8 8 = 8 by decide] at hcv1
  have F1 : Hid (SupAt w1 w.heap.size s) := SupAt.same (heap_alloc_new w _) hb1 (by simp)
  have HB1 : Hid (Below w.heap.size w w1) := ((Below.refl _ _).alloc (Nat.le_refl _) _).trans (hb1.mono (by simp))
  have hl8 : (strN (octZ s.gen 8)).size = 8 := by rw [strN_size, octZ_length]
  have HM : Hid ((⟨#[77, 79, 84, 72]⟩ : ByteArray) ++ strN (octZ s.gen 8) = strN (preK s 0)) := by
    unfold Hid; rw [str_moth, strN_append, preK_zero]
  obtain ⟨k0, k1, k2, k3, k4, k5, k6, k7⟩ := F1.out.cells
  clear hb1
  go_wp2_with fail
  clear k0 k1 k2 k3 k4 k5 k6 k7 hcv1
  have L1 : Hid ((w1.alloc (.cells #[.int .i64 s.journal, .int .i64 s.area, .int .i64 s.which, .int .i64 s.len, .int .i64 s.sum, .int .i64 s.epoch, .int .i64 s.start] 3)).heap[w1.heap.size]? = some (.cells #[.int .i64 s.journal, .int .i64 s.area, .int .i64 s.which, .int .i64 s.len, .int .i64 s.sum, .int .i64 s.epoch, .int .i64 s.start] 3 (0, 0))) := heap_alloc_new _ _
  have L2 : Hid (SupAt (w1.alloc (.cells #[.int .i64 s.journal, .int .i64 s.area, .int .i64 s.which, .int .i64 s.len, .int .i64 s.sum, .int .i64 s.epoch, .int .i64 s.start] 3)) w.heap.size s) := SupAt.same F1.out ((Below.refl _ _).alloc (Nat.le_refl _) _) F1.out.lt
  have L3 : Hid (Below w.heap.size w (w1.alloc (.cells #[.int .i64 s.journal, .int .i64 s.area, .int .i64 s.which, .int .i64 s.len, .int .i64 s.sum, .int .i64 s.epoch, .int .i64 s.start] 3))) := HB1.out.alloc HB1.out.size _
  generalize w1.alloc (.cells #[.int .i64 s.journal, .int .i64 s.area, .int .i64 s.which, .int .i64 s.len, .int .i64 s.sum, .int .i64 s.epoch, .int .i64 s.start] 3) = V at L1 L2 L3 ⊢
  generalize w1.heap.size = B at L1 ⊢
  go_loopw [3, 5] (fun x i wr => ∃ k : Nat, k ≤ 7 ∧ i = .int .i64 k ∧ x = .string (strN (preK s k)) ∧ Hid (wr.heap[B]? = some (.cells #[.int .i64 s.journal, .int .i64 s.area, .int .i64 s.which, .int .i64 s.len, .int .i64 s.sum, .int .i64 s.epoch, .int .i64 s.start] 3 (0, 0))) ∧ Hid (SupAt wr w.heap.size s) ∧ Hid (Below w.heap.size w wr)) (fun _ i _ => 7 - (intOf i).toNat)
  case atStart => exact ⟨0, by omega, rfl, by rw [HM.out], L1.out, L2.out, L3.out⟩
  case round =>
    obtain ⟨k, hk, rfl, rfl, M1, M2, M3⟩ := hrel
    by_cases h7 : k < 7
    · have hn7 : k < (numsS s).length := h7
      obtain ⟨n, hn⟩ : ∃ n, (numsS s)[k]? = some n := ⟨_, List.getElem?_eq_getElem hn7⟩
      have hc : wr.cell? ⟨B, k, none⟩ = some (.int .i64 n) := (cell_of_row _ _ _ _ _ _ M1.out).trans (numsS_at s k n hn)
      have HN : Hid ((numsS s)[k]? = some n) := hn
      have hlA := strN_size (preK s k)
      have hlA2 := preK_len s k hk
      have HA : Hid (strN (preK s k) ++ strN (octZ n 4) = strN (preK s (k + 1))) := by unfold Hid; rw [strN_append, preK_succ s k n HN.out]
      have hl4 : (strN (octZ n 4)).size = 4 := by rw [strN_size, octZ_length]
      clear hn hn7
      generalize preK s k = A at *
      go_wp2_with fail
      refine (refLay_octs5 n 4 _).mono ?_
      rintro e w3 ⟨v3, rfl, _, hcv3, hb3⟩
      rw [show cl 4 8 = 4 by decide] at hcv3
      have M1' : Hid (w3.heap[B]? = some (.cells #[.int .i64 s.journal, .int .i64 s.area, .int .i64 s.which, .int .i64 s.len, .int .i64 s.sum, .int .i64 s.epoch, .int .i64 s.start] 3 (0, 0))) := row_same M1.out hb3 (lt_of_heap M1.out)
      have M2' : Hid (SupAt w3 w.heap.size s) := M2.out.same hb3 M2.out.lt
      have M3' : Hid (Below w.heap.size w w3) := M3.out.trans (hb3.mono M3.out.size)
      clear hb3 hc
      go_wp2
      go_roundw
      case rel => exact ⟨k + 1, by omega, by go_num, by rw [HA.out], M1'.out, M2'.out, M3'.out⟩
      case measure => simp [intOf]; omega
    · obtain rfl : k = 7 := by omega
      have hlA : (strN (preK s 7)).size = 40 := by rw [strN_size, preK_all]; simp [fieldsN_length]
      have HBd : Hid ((preK s 7 ++ zl 76) ++ octZ s.gen 8 = body s) := body_pre s
      have c0 := M2.out.cells.1
      generalize preK s 7 = A at *
      have hlw := M2.out.lt
      have c0' : ∀ o, (wr.alloc o).cell? ⟨w.heap.size, 0, none⟩ = some (.int .i64 s.gen) := fun o => (World.cell?_alloc_past _ _ _ hlw).trans c0
      have e76 : IntKind.i64.wrap 76 = 76 := by decide
      have hmk : ∀ W : World, (Instr.makeSlice 26 (.int .i64 76) (.int .i64 76)).run Tryd.prog W = .ok (.slice (some ⟨W.heap.size, 0, none⟩) 76 76) (W.alloc (.cells (u8s (zl 76)).toArray 5)) := Tryd.make5 76 (by decide)
      have HOZ : Hid (∀ W : World, Octs (W.alloc (.cells (u8s (zl 76)).toArray 5)) (.slice (some ⟨W.heap.size, 0, none⟩) 76 76) (zl 76)) := fun W => octs_row0 (heap_alloc_new _ _) (zl_small _) (zl_length _) (by decide)
      have hlZ : (strN (zl 76)).size = 76 := by rw [strN_size, zl_length]
      generalize zl 76 = Z at *
      have HCZ : Hid (∀ W v, Octs W v Z → (convert 26 9 v).run Tryd.prog W = .ok (.string (strN Z)) W) := fun W v h => conv_octs (P := Tryd.prog) h _ _ _ Tryd.underlying26 Tryd.underlying5 Tryd.underlying9
      have HCG : Hid (∀ W v, Octs W v (octZ s.gen 8) → (convert 26 9 v).run Tryd.prog W = .ok (.string (strN (octZ s.gen 8))) W) := fun W v h => conv_octs (P := Tryd.prog) h _ _ _ Tryd.underlying26 Tryd.underlying5 Tryd.underlying9
      have hcm : ∀ W : World, (convert 26 9 (.slice (some ⟨W.heap.size, 0, none⟩) 76 76)).run Tryd.prog (W.alloc (.cells (u8s Z).toArray 5)) = .ok (.string (strN Z)) (W.alloc (.cells (u8s Z).toArray 5)) := fun W => HCZ.out _ _ (HOZ.out W)
      have hcmD : ∀ W : World, (convert 26 9 (.slice (some ⟨W.heap.size, 0, none⟩) 76 76)).run Tryd.prog (W.alloc (.cells (u8s Z).toArray 5)).drew = .ok (.string (strN Z)) (W.alloc (.cells (u8s Z).toArray 5)).drew := fun W => HCZ.out _ _ (HOZ.out W).drew
      have HBS : Hid (∀ z ∈ body s, z < 256) := body_small s
      have HBL : Hid ((body s).length = 124) := body_length s
      have HSE : Hid (sect s = body s ++ octN (crcSum (body s))) := rfl
      generalize hGG : octZ s.gen 8 = G at *
      have HGG : Hid (octZ s.gen 8 = G) := hGG
      clear hGG
      generalize body s = Bd at *
      have hs1 : strN A ++ strN Z = strN (A ++ Z) := strN_append _ _
      have hs2 : strN (A ++ Z) ++ strN G = strN Bd := by rw [strN_append, HBd.out]
      have hlAZ : (strN (A ++ Z)).size = 116 := by rw [← hs1, ByteArray.size_append, hlA, hlZ]
      have hback : ∀ W : World, (convert 9 26 (.string (strN Bd))).run Tryd.prog W = .ok (.slice (some ⟨W.heap.size, 0, none⟩) 124 (grownCap W 124 0 5)) (Lib.bytesWorld W 5 (strN Bd)) := fun W => by
        have := (conv_back6 W Bd HBS.out (by rw [HBL.out]; decide)).1
        rwa [HBL.out] at this
      have HBK : Hid (∀ W : World, Octs (Lib.bytesWorld W 5 (strN Bd)) (.slice (some ⟨W.heap.size, 0, none⟩) 124 (grownCap W 124 0 5)) Bd ∧ Below W.heap.size W (Lib.bytesWorld W 5 (strN Bd))) := fun W => by
        have := (conv_back6 W Bd HBS.out (by rw [HBL.out]; decide)).2
        rwa [HBL.out] at this
      have HBKA : Hid (∀ W : World, Octs (Lib.bytesWorld (W.alloc (.cells (u8s Z).toArray 5)) 5 (strN Bd)) (.slice (some ⟨W.heap.size + 1, 0, none⟩) 124 (grownCap (W.alloc (.cells (u8s Z).toArray 5)) 124 0 5)) Bd) := fun W => by
        have := (HBK.out (W.alloc (.cells (u8s Z).toArray 5))).1
        rwa [show (W.alloc (.cells (u8s Z).toArray 5)).heap.size = W.heap.size + 1 by simp] at this
      go_wp2_with fail
      go_region_law (first
        | (go_simp; go_at_call 24
           (first
             | ((with_reducible show Calls _ _ _ (World.drew (wr.alloc _)) _); refine (refLay_octs5 s.gen 8 (wr.alloc (.cells (u8s Z).toArray 5)).drew).mono ?_; rintro e w3 ⟨v3, rfl, ho3, -, hb3⟩
                have hz3 := HCZ.out _ _ ((HOZ.out wr).drew.kept hb3)
                have HB3 : Hid (Below wr.heap.size wr w3) := ((Below.refl _ _).alloc (Nat.le_refl _) _).trans ((below_undrew hb3).mono (by simp)))
             | ((with_reducible show Calls _ _ _ (World.drew wr) _); refine (refLay_octs5 s.gen 8 wr.drew).mono ?_; rintro e w3 ⟨v3, rfl, ho3, -, hb3⟩
                have HB3 : Hid (Below wr.heap.size wr w3) := below_undrew hb3))
           rw [show cl 8 8 = 8 by decide, HGG.out] at ho3
           have hcv3 := HCG.out _ _ ho3
           have hcv3D := HCG.out _ _ ho3.drew
           have hcv3A := fun o => HCG.out _ _ (ho3.alloc o)
           clear ho3 hb3)
        | (go_simp; go_at_call 25
           (first
             | ((with_reducible show Calls _ _ _ (Lib.bytesWorld w3 _ _) _); refine (refSeal_octs _ Bd (Lib.bytesWorld w3 5 (strN Bd)) (HBK.out w3).1 (by rw [HBL.out]; decide)).mono ?_; rintro e w9 ⟨rfl, hb9⟩
                have HB9 : Hid (Below wr.heap.size wr w9) := HB3.out.trans (((HBK.out w3).2.trans (hb9.mono (HBK.out w3).2.size)).mono HB3.out.size))
             | ((with_reducible show Calls _ _ _ (Lib.bytesWorld (w3.alloc _) _ _) _); refine (refSeal_octs _ Bd (Lib.bytesWorld (w3.alloc (.cells (u8s Z).toArray 5)) 5 (strN Bd)) (HBKA.out w3) (by rw [HBL.out]; decide)).mono ?_; rintro e w9 ⟨rfl, hb9⟩
                have HB9 : Hid (Below wr.heap.size wr w9) := (HB3.out.alloc HB3.out.size _).trans (((HBK.out (w3.alloc (.cells (u8s Z).toArray 5))).2.trans (hb9.mono (HBK.out _).2.size)).mono (by have := HB3.out.size; simp; omega))))
           clear hb9))
      all_goals
        rw [← HSE.out]
        go_wp2
        go_ret
        exact ⟨rfl, M3.out.trans (HB9.out.mono M3.out.size)⟩
end Go.Proofs.YtgbibhbmcbbbhaaDoor
