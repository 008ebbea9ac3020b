/- The document's Cut: its contract. -/
import Derived.Test.YtndeknkfljnjoaaDoorWalkRefGet6
namespace Go.Proofs.YtndeknkfljnjoaaDoor
open Go.RowKit
set_option linter.unusedVariables false

theorem octs_piece {w : World} {a : Option Addr} {n cap : Nat} {zs : List Nat} (h : Octs w (.slice a n cap) zs) (lo hi : Nat) (h1 : lo ≤ hi) (h2 : hi ≤ n) (h0 : lo < hi) :
    ∃ b off, a = some ⟨b, off, none⟩ ∧ Octs w (.slice (some ⟨b, off + lo, none⟩) (hi - lo) (cap - lo)) ((zs.drop lo).take (hi - lo)) := by
  have hl := h.lenEq
  obtain ⟨b, off, rfl, hlt, hc⟩ := h.addr (by omega)
  refine ⟨b, off, rfl, ?_⟩
  obtain ⟨g1, g2, ad, c, e, g3, g4, _⟩ := h
  simp only [Value.slice.injEq] at e
  obtain ⟨_, _, rfl⟩ := e
  have hlen : ((zs.drop lo).take (hi - lo)).length = hi - lo := by rw [List.length_take, List.length_drop]; omega
  refine ⟨small_part g1 _ _, by rw [hlen]; unfold maxLen at g2 ⊢; omega, _, cap - lo, by rw [hlen], by rw [hlen]; omega, by omega, .inr ⟨_, rfl, .inr ⟨b, off + lo, rfl, hlt, fun j hj => ?_⟩⟩⟩
  rw [hlen] at hj
  have := hc (lo + j) (by omega)
  rw [show off + (lo + j) = off + lo + j by omega] at this
  rw [this, List.getElem?_take_of_lt hj, List.getElem?_drop]

theorem piece_take (zs : List Nat) (lo hi : Nat) (h : hi = lo + 112 ∨ (hi = zs.length ∧ zs.length ≤ lo + 112)) : (zs.drop lo).take (hi - lo) = (zs.drop lo).take 112 := by
  rcases h with rfl | ⟨rfl, h⟩
  · rw [Nat.add_sub_cancel_left]
  · rw [List.take_of_length_le (by rw [List.length_drop]; omega), List.take_of_length_le (by rw [List.length_drop]; omega)]

set_option maxHeartbeats 1000000 in
set_option maxRecDepth 20000 in
theorem refCut6 (e n : Int) (a : Option Addr) (len cap : Nat) (zs : List Nat) (w : World) (ho : Octs w (.slice a len cap) zs) (hid : okId e n = true) (hl : zs.length ≤ 65000) :
    Calls Tryd.prog 15 #[.int .i64 e, .int .i64 n, .slice a len cap] w fun x w' => x = .returned (.string (strN (cutS e n zs))) ∧ Below w.heap.size w w' := by
  have hle := ho.lenEq
  have hcapL : len ≤ cap := by
    obtain ⟨_, _, ad, c, e1, g3, _⟩ := ho
    simp only [Value.slice.injEq] at e1
    obtain ⟨_, _, rfl⟩ := e1
    omega
  have HO : Hid (Octs w (.slice a len cap) zs) := ho
  have HID : Hid (okId e n = true) := hid
  have HLE : Hid (zs.length = len) := hle
  have hlen : len ≤ 65000 := by omega
  have HC0 : Hid (cutN e n zs 0 = []) := rfl
  have HCS : Hid (∀ j, cutN e n zs (j + 1) = cutN e n zs j ++ sect6 (partOf e n zs j)) := fun _ => rfl
  have HCE : Hid (cutS e n zs = cutN e n zs (partsN len) ++ sect6 (footOf e n zs)) := by unfold Hid; rw [← hle]; rfl
  have HCL : Hid (∀ j, (cutN e n zs j).length = 128 * j) := cutN_length e n zs
  clear ho hid hl hle
  generalize hCC : cutN e n zs = CC at *
  clear hCC
  have hp0 : 112 * partsN len < len + 112 := by unfold partsN; omega
  have hp1 : len ≤ 112 * partsN len := by unfold partsN; omega
  generalize hPP : partsN len = PP at *
  have HPP : Hid (partsN len = PP) := hPP
  clear hPP
  go_enter Tryd.func15, Tryd.ntmps15
  go_wp2_with fail
  go_loopw [7, 8] (fun s i wr => ∃ j : Nat, j ≤ PP ∧ i = .int .i64 j ∧ s = .string (strN (CC j)) ∧ Hid (Below w.heap.size w wr)) (fun _ i _ => PP - (intOf i).toNat)
  case atStart => exact ⟨0, Nat.zero_le _, rfl, by rw [HC0.out]; rfl, Below.refl _ _⟩
  case round =>
    obtain ⟨j, hj, rfl, rfl, GB⟩ := hrel
    obtain ⟨lo, hlo⟩ : ∃ lo : Nat, lo = 112 * j := ⟨_, rfl⟩
    have e1 : (112 : Int) * (j : Int) = (lo : Int) := by omega
    have e2 : IntKind.i64.wrap (lo : Int) = (lo : Int) := by rw [IntKind.wrap_i64]; omega
    have e3 : IntKind.i64.wrap ((lo : Int) + 112) = (lo : Int) + 112 := by rw [IntKind.wrap_i64]; omega
    have e4 : IntKind.i64.wrap ((j : Int) + 1) = (j : Int) + 1 := by rw [IntKind.wrap_i64]; omega
    have HLO : Hid (lo = 112 * j) := hlo
    have hsA := strN_size (CC j)
    rw [HCL.out j] at hsA
    by_cases hlt : lo < len
    · have hlt' : (lo : Int) < (len : Int) := by omega
      have hncap : ¬ cap = lo := by omega
      have hlc : (lo : Int) ≤ (len : Int) := by omega
      have HKP : Hid (okP (partOf e n zs j) = true) := partOf_ok HID.out zs j (by omega)
      have hsB : (strN (sect6 (partOf e n zs j))).size = 128 := by rw [strN_size, sect6_length _ (partOf_data _ _ _ _)]
      have HA : Hid (strN (CC j) ++ strN (sect6 (partOf e n zs j)) = strN (CC (j + 1))) := by unfold Hid; rw [strN_append, HCS.out]
      have hsz : 128 * j + 128 ≤ 9223372036854775807 := by omega
      have HDT : Hid ((partOf e n zs j).data = (zs.drop lo).take 112) := by unfold Hid; rw [hlo]; rfl
      have HJ : Hid (j < PP) := by unfold Hid; omega
      by_cases hend : len < lo + 112
      · have hend' : (len : Int) < (lo : Int) + 112 := by omega
        obtain ⟨b, off, rfl, hop⟩ := octs_piece HO.out lo len (by omega) (Nat.le_refl _) hlt
        rw [piece_take zs lo len (.inr ⟨by rw [HLE.out], by rw [HLE.out]; omega⟩), ← HDT.out] at hop
        have HOP : Hid (Octs wr (.slice (some ⟨b, off + lo, none⟩) (len - lo) (cap - lo)) (partOf e n zs j).data) := hop.kept GB.out
        have HPC := refPut6 (partOf e n zs j) (.slice (some ⟨b, off + lo, none⟩) (len - lo) (cap - lo)) wr HKP.out HOP.out
        have HPU : Hid (Calls Tryd.prog 13 #[.agg #[.bool false, .int .i64 e, .int .i64 n, .int .i64 (j : Nat), .slice (some ⟨b, off + lo, none⟩) (len - lo) (cap - lo)]] wr fun x w' => x = .returned (.string (strN (sect6 (partOf e n zs j)))) ∧ Below wr.heap.size wr w') := HPC
        clear hop hlo HPC HOP HDT
        generalize sect6 (partOf e n zs j) = SJ at *
        go_wp2_with fail
        refine HPU.out.mono ?_
        rintro x w2 ⟨rfl, hb2⟩
        have GB2 : Hid (Below w.heap.size w w2) := GB.out.trans (hb2.mono GB.out.size)
        clear hb2
        go_wp2
        go_roundw
        case rel => exact ⟨j + 1, by have := HJ.out; omega, by go_num, by rw [HA.out], GB2.out⟩
        case measure => have := HJ.out; simp [intOf]; omega
      · have hend' : ¬ (len : Int) < (lo : Int) + 112 := by omega
        obtain ⟨b, off, rfl, hop⟩ := octs_piece HO.out lo (lo + 112) (by omega) (by omega) (by omega)
        rw [piece_take zs lo (lo + 112) (.inl rfl), ← HDT.out, Nat.add_sub_cancel_left] at hop
        have HOP : Hid (Octs wr (.slice (some ⟨b, off + lo, none⟩) 112 (cap - lo)) (partOf e n zs j).data) := hop.kept GB.out
        have HPC := refPut6 (partOf e n zs j) (.slice (some ⟨b, off + lo, none⟩) 112 (cap - lo)) wr HKP.out HOP.out
        have HPU : Hid (Calls Tryd.prog 13 #[.agg #[.bool false, .int .i64 e, .int .i64 n, .int .i64 (j : Nat), .slice (some ⟨b, off + lo, none⟩) 112 (cap - lo)]] wr fun x w' => x = .returned (.string (strN (sect6 (partOf e n zs j)))) ∧ Below wr.heap.size wr w') := HPC
        have q1 : ((lo : Int) + 112).toNat = lo + 112 := by omega
        have q2 : lo + 112 - lo = 112 := by omega
        have q3 : (lo : Int) + 112 ≤ (cap : Int) := by omega
        have q4 : (0 : Int) ≤ (lo : Int) + 112 := by omega
        have q5 : (lo : Int) ≤ (lo : Int) + 112 := by omega
        clear hop hlo HPC HOP HDT
        generalize sect6 (partOf e n zs j) = SJ at *
        go_wp2_with fail
        refine HPU.out.mono ?_
        rintro x w2 ⟨rfl, hb2⟩
        have GB2 : Hid (Below w.heap.size w w2) := GB.out.trans (hb2.mono GB.out.size)
        clear hb2
        go_wp2
        go_roundw
        case rel => exact ⟨j + 1, by have := HJ.out; omega, by go_num, by rw [HA.out], GB2.out⟩
        case measure => have := HJ.out; simp [intOf]; omega
    · have hlt' : ¬ (lo : Int) < (len : Int) := by omega
      have hjP : j = PP := by omega
      have HZS := HO.out.small
      have hcs : IntKind.i64.wrap ((crcSum zs : Nat) : Int) = ((crcSum zs : Nat) : Int) := by have := crcSum_lt zs HZS; rw [IntKind.wrap_i64]; omega
      have HKF : Hid (okP (footOf e n zs) = true) := footOf_ok HID.out zs (by rw [HLE.out]; exact hlen)
      have HFD : Hid ((footOf e n zs).data = octZ ((crcSum zs : Nat) : Int) 4) := rfl
      have HFC : Hid (∀ v W, Octs W v (footOf e n zs).data → Calls Tryd.prog 13 #[.agg #[.bool true, .int .i64 e, .int .i64 n, .int .i64 (j : Nat), v]] W fun x w' => x = .returned (.string (strN (sect6 (footOf e n zs)))) ∧ Below W.heap.size W w') := fun v W h => by
        have := refPut6 (footOf e n zs) v W HKF.out h
        unfold pval at this
        rw [hjP, ← HPP.out, ← HLE.out]
        exact this
      have hsB : (strN (sect6 (footOf e n zs))).size = 128 := by rw [strN_size, sect6_length _ (footOf_data _ _ _)]
      have HA : Hid (strN (CC j) ++ strN (sect6 (footOf e n zs)) = strN (cutS e n zs)) := by unfold Hid; rw [strN_append, HCE.out, hjP]
      have hsz : 128 * j + 128 ≤ 9223372036854775807 := by omega
      clear hlo hjP
      generalize sect6 (footOf e n zs) = SF at *
      go_wp2_with fail
      refine (refSum_octs _ zs wr (HO.out.kept GB.out)).mono ?_
      rintro x w1 ⟨rfl, rfl⟩
      go_wp2_with fail
      refine (refLay_octs5 _ 4 _).mono ?_
      rintro x w2 ⟨v2, rfl, ho2, -, hb2⟩
      rw [show cl 4 8 = 4 by decide] at ho2
      obtain ⟨a2, cap2, rfl⟩ := ho2.shape
      rw [octZ_length] at ho2 ⊢
      have HO2 : Hid (Octs w2 (.slice a2 4 cap2) (footOf e n zs).data) := ho2
      have GB2 : Hid (Below w.heap.size w w2) := GB.out.trans (hb2.mono GB.out.size)
      clear ho2 hb2
      go_wp2_with fail
      refine (HFC.out _ w2 HO2.out).mono ?_
      rintro x w3 ⟨rfl, hb3⟩
      have GB3 : Hid (Below w.heap.size w w3) := GB2.out.trans (hb3.mono GB2.out.size)
      clear hb3
      go_wp2
      go_ret
      rw [HA.out]
      exact ⟨rfl, GB3.out⟩
end Go.Proofs.YtndeknkfljnjoaaDoor
