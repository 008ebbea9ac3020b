/- Contracts of the document's reading: 'Take', 'Num', 'Signed', 'Text'. -/
import Derived.Test.YtclondljjfljpaaWalkRef4
import Derived.Lib.ConvBytes
namespace Go.Proofs.Ytclondljjfljpaa
open Go.RowKit
set_option linter.unusedVariables false

/-- The document's reading at block q. -/
def IsB (w : World) (q : Nat) (s : RS) : Prop := TwoAt w q 38 (.string (strN s.zs)) (.bool s.fail) ∧ (∀ z ∈ s.zs, z < 256) ∧ s.zs.length ≤ 100000 ∧ (s.fail = true → s.zs = [])
theorem IsB.noOct {w : World} {q : Nat} {s : RS} (h : IsB w q s) : NoOct w q := h.1.noOct (by simp) (by simp)
theorem IsB.lt {w : World} {q : Nat} {s : RS} (h : IsB w q s) : q < w.heap.size := h.1.lt
theorem IsB.same {w w' : World} {q : Nat} {s : RS} (h : IsB w q s) (hb : w'.heap[q]? = w.heap[q]?) : IsB w' q s := ⟨hb.trans h.1, h.2⟩
theorem IsB.below {w w' : World} {q : Nat} {s : RS} (h : IsB w q s) (hb : Below w.heap.size w w') : IsB w' q s := h.same (hb.block q h.lt)
theorem IsB.drew {w : World} {q : Nat} {s : RS} (h : IsB w q s) : IsB w.drew q s := h
theorem IsB.only {w w' : World} {p q : Nat} {s : RS} (h : IsB w q s) (hn : q ≠ p) (ho : Only p w w') : IsB w' q s := h.same (ho.heap h.lt hn)
theorem strN_take (zs : List Nat) (n : Nat) : (strN zs).extract 0 n = strN (zs.take n) := by
  apply ByteArray.ext
  simp [strN, strOfNums, List.map_take]
theorem strN_drop (zs : List Nat) (n : Nat) : (strN zs).extract n (strN zs).size = strN (zs.drop n) := by
  apply ByteArray.ext
  rw [strN_size]
  simp [strN, strOfNums, List.map_drop]
  exact List.take_of_length_le (by simp)
theorem RS.off_ok {s : RS} {n : Nat} (h : (∀ z ∈ s.zs, z < 256) ∧ s.zs.length ≤ 100000 ∧ (s.fail = true → s.zs = [])) : (∀ z ∈ (s.off n).zs, z < 256) ∧ (s.off n).zs.length ≤ 100000 ∧ ((s.off n).fail = true → (s.off n).zs = []) := by
  unfold RS.off
  split
  · refine ⟨fun z hz => h.1 z (List.mem_of_mem_drop hz), ?_, by simp⟩
    have := h.2.1
    simp only [List.length_drop]; omega
  · exact ⟨by simp [RS.failed], by simp [RS.failed], fun _ => rfl⟩

set_option maxHeartbeats 400000 in
set_option maxRecDepth 20000 in
theorem refTake_any {w : World} {q : Nat} {s : RS} (h : IsB w q s) (n : Nat) :
    Calls Try.prog 44 #[.pointer (some ⟨q, 0, none⟩), .int .i64 n] w fun e w' => e = .returned (.string (strN (s.oct n))) ∧ IsB w' q (s.off n) ∧ Only q w w' := by
  have c0 := h.1.cell.1
  have c1 := h.1.cell.2
  have f0 := h.1.frozen 0
  have f1 := h.1.frozen 1
  have H : Hid (IsB w q s) := h
  have hl := h.2.2.1
  have HSZ : Hid ((strN s.zs).size = s.zs.length) := strN_size _
  have hsz : (strN s.zs).size = s.zs.length := strN_size _
  by_cases hcan : s.can n = true
  · have hc := RS.can_iff.1 hcan
    have e1 := strN_take s.zs n
    have e2 := strN_drop s.zs n
    have HE : Hid (s.oct n = s.zs.take n ∧ s.off n = ⟨s.zs.drop n, false⟩) := ⟨if_pos hcan, if_pos hcan⟩
    have HR : Hid (IsB (w.setCell ⟨q, 0, none⟩ (.string (strN (s.zs.drop n)))) q (s.off n)) := by
      refine ⟨?_, RS.off_ok H.out.2⟩
      rw [HE.out.2]
      have := h.1.set0 (.string (strN (s.zs.drop n)))
      rw [hc.1] at this
      exact this
    rw [hc.1] at c1
    rw [HE.out.1]
    have hn := hc.2
    clear h hcan hc
    generalize strN (s.zs.take n) = S1 at e1 ⊢
    generalize strN (s.zs.drop n) = S2 at e2 HR
    generalize hS : strN s.zs = S at *
    generalize s.zs.length = L at *
    rw [← hsz] at hn hl
    clear hS HSZ hsz HE
    go_enter Try.func44, Try.ntmps44
    go_wp2
    go_ret
    exact ⟨rfl, HR.out, (Only.refl _ _).setCell 0 _⟩
  · have HE : Hid (s.oct n = [] ∧ s.off n = .failed) := ⟨if_neg hcan, if_neg hcan⟩
    have HR : Hid (IsB ((w.setCell ⟨q, 1, none⟩ (.bool true)).setCell ⟨q, 0, none⟩ (.string ByteArray.empty)) q (s.off n)) := by
      refine ⟨?_, RS.off_ok H.out.2⟩
      rw [HE.out.2]
      exact (h.1.set1 _).set0 _
    have hno : s.fail = true ∨ (s.fail = false ∧ s.zs.length < n) := by
      rcases RS.cannot hcan with e | e | e
      · exact .inl e
      · omega
      · cases hf : s.fail
        · exact .inr ⟨rfl, by omega⟩
        · exact .inl rfl
    rw [HE.out.1]
    clear h hcan
    rcases hno with hf | ⟨hf, hn⟩
    · rw [hf] at c1
      go_enter Try.func44, Try.ntmps44
      go_wp2
      go_ret
      exact ⟨rfl, HR.out, ((Only.refl _ _).setCell 1 _).setCell 0 _⟩
    · rw [hf] at c1
      rw [← hsz] at hn hl
      generalize strN s.zs = S at *
      go_enter Try.func44, Try.ntmps44
      go_wp2
      go_ret
      exact ⟨rfl, HR.out, ((Only.refl _ _).setCell 1 _).setCell 0 _⟩

theorem width_any (n : Int) (w : World) : Calls Try.prog 45 #[.int .i64 n] w fun e w' => e = .returned (.int .i64 (cl n 8)) ∧ w' = w := by
  have E : Hid ((cl n 8 : Int) = max 0 (min n 8)) := cl_cast n 8
  by_cases h1 : n < 0
  · go_enter Try.func45, Try.ntmps45
    go_wp2
    go_ret
    exact ⟨ret_int (by rw [E.out]; omega), rfl⟩
  · by_cases h2 : 8 < n
    · go_enter Try.func45, Try.ntmps45
      go_wp2
      go_ret
      exact ⟨ret_int (by rw [E.out]; omega), rfl⟩
    · go_enter Try.func45, Try.ntmps45
      go_wp2
      go_ret
      exact ⟨ret_int (by rw [E.out]; omega), rfl⟩

/-- '[]byte(s)'. -/
theorem conv_back (w : World) (zs : List Nat) (hz : ∀ z ∈ zs, z < 256) (hl : zs.length ≤ 100000) :
    ∃ W1 a cap, (convert 9 25 (.string (strN zs))).run Try.prog w = .ok (.slice a zs.length cap) W1 ∧ Octs W1 (.slice a zs.length cap) zs ∧ Below w.heap.size w W1 := by
  have hcv := Lib.run_convert_string_bytes (P := Try.prog) w 9 25 5 (strN zs) (u := .string) Try.underlying9 Try.underlying25 Try.underlying5
  have hbw : Below w.heap.size w (Lib.bytesWorld w 5 (strN zs)) := ⟨rfl, rfl, rfl, by rw [Lib.bytesWorld_size]; omega, fun k hk => Lib.bytesWorld_at_old w 5 (strN zs) k hk⟩
  have hge := grownCap_ge w (strN zs).size 0 5
  have hle := grownCap_le_maxLen w (strN zs).size 0 5 (by rw [strN_size]; unfold maxLen; omega)
  rw [strN_size] at hcv hge hle
  refine ⟨_, _, _, hcv, ⟨hz, by unfold maxLen; omega, _, _, rfl, hge, hle, .inr ⟨_, rfl, ?_⟩⟩, hbw⟩
  by_cases h0 : zs.length = 0
  · exact .inl (List.eq_nil_of_length_eq_zero h0)
  · refine .inr ⟨w.heap.size, 0, rfl, ?_, fun j hj => ?_⟩
    · have h6 := Lib.bytesWorld_cell w 5 (strN zs) 0 (by rw [strN_size]; omega)
      exact cell_lt h6
    · have h6 := Lib.bytesWorld_cell w 5 (strN zs) j (by rw [strN_size]; exact hj)
      rw [Nat.zero_add, h6]
      have h7 := octsOf_strN zs hz
      have h8 : (octsOf (strN zs))[j]?.getD 0 = zs[j]?.getD 0 := by rw [h7]
      rw [← h8]
      unfold octsOf
      have hj' : j < (strN zs).data.toList.length := by
        have := octsOf_length (strN zs)
        rw [octsOf, List.length_map, strN_size] at this
        omega
      simp [List.getD, List.getElem?_eq_getElem hj']

theorem refGet_octs (v : Value) (zs : List Nat) (w : World) (h : Octs w v zs) : Calls Try.prog 43 #[v] w fun e w' => e = .returned (.int .i64 (getO zs)) ∧ Below w.heap.size w w' := by
  have hl := h.len
  have hsm := h.small
  obtain ⟨a, cap, rfl⟩ := h.shape
  by_cases h0 : zs.length = 0
  · have : zs = [] := List.eq_nil_of_length_eq_zero h0
    subst this
    refine (refGet_empty a cap w).mono ?_
    rintro e w' ⟨rfl, rfl⟩
    exact ⟨rfl, Below.refl _ _⟩
  · obtain ⟨b, off, rfl, hlt, hc⟩ := h.addr (by omega)
    have := refGet_any b off cap (zs.map Int.ofNat) w (fun z hz => by
      rw [List.mem_map] at hz
      obtain ⟨y, hy, rfl⟩ := hz
      have := hsm y hy
      simp only [Int.ofNat_eq_natCast]; omega) (by simpa using hl) hlt (fun j hj => by
      rw [List.length_map] at hj
      rw [hc j hj]
      simp [List.getElem?_map, List.getElem?_eq_getElem hj])
    rwa [List.length_map] at this
theorem RS.oct_ok {s : RS} {n : Nat} (h : (∀ z ∈ s.zs, z < 256) ∧ s.zs.length ≤ 100000) : (∀ z ∈ s.oct n, z < 256) ∧ (s.oct n).length ≤ 100000 := by
  unfold RS.oct
  split
  · refine ⟨fun z hz => h.1 z (List.mem_of_mem_take hz), ?_⟩
    have := h.2
    simp only [List.length_take]; omega
  · exact ⟨by simp, by simp⟩

set_option maxHeartbeats 400000 in
theorem refNum_any {w : World} {q : Nat} {s : RS} (h : IsB w q s) (size : Int) :
    Calls Try.prog 18 #[.pointer (some ⟨q, 0, none⟩), .int .i64 size] w fun e w' => e = .returned (.int .i64 (getO (s.oct (cl size 8)))) ∧ IsB w' q (s.off (cl size 8)) ∧ Only q w w' := by
  have H : Hid (IsB w q s) := h
  have HZ := RS.oct_ok (n := cl size 8) ⟨h.2.1, h.2.2.1⟩
  clear h
  go_enter Try.func18, Try.ntmps18
  go_wp2_with fail
  refine (width_any size _).mono ?_
  rintro e w' ⟨rfl, rfl⟩
  go_wp2_with fail
  refine (refTake_any H.out (cl size 8)).mono ?_
  rintro e w1 ⟨rfl, hb1, hk1⟩
  have HB1 : Hid (IsB w1 q (s.off (cl size 8))) := hb1
  have HK1 : Hid (Only q w' w1) := hk1
  clear hb1 hk1
  obtain ⟨W1, a, cap, hcv, ho, hbl⟩ := conv_back w1 (s.oct (cl size 8)) HZ.1 HZ.2
  have HO : Hid (Octs W1 (.slice a (s.oct (cl size 8)).length cap) (s.oct (cl size 8))) := ho
  have HBL : Hid (Below w1.heap.size w1 W1) := hbl
  clear ho hbl HZ
  go_wp2_with fail
  refine (refGet_octs _ _ _ HO.out).mono ?_
  rintro e w2 ⟨rfl, hb2⟩
  have HB2 : Hid (Below w1.heap.size w1 w2) := HBL.out.trans (hb2.mono HBL.out.size)
  clear hb2 hcv
  go_wp2
  go_ret
  exact ⟨rfl, HB1.out.below HB2.out, HK1.out.trans (Only.ofBelow HB2.out)⟩

set_option maxHeartbeats 400000 in
theorem refSigned4_any {w : World} {q : Nat} {s : RS} (h : IsB w q s) (size : Int) :
    Calls Try.prog 22 #[.pointer (some ⟨q, 0, none⟩), .int .i64 size] w fun e w' => e = .returned (.int .i64 (sgnI (getO (s.oct (cl size 8))) (8 * cl size 8))) ∧ IsB w' q (s.off (cl size 8)) ∧ Only q w w' := by
  have H : Hid (IsB w q s) := h
  have E : Hid (cl (8 * (cl size 8 : Int)) 64 = 8 * cl size 8) := cl_eight _ (cl_le size 8)
  have hk := cl_le size 8
  clear h
  go_enter Try.func22, Try.ntmps22
  go_wp2_with fail
  refine (refNum_any H.out size).mono ?_
  rintro e w1 ⟨rfl, hb1, hk1⟩
  have HB1 : Hid (IsB w1 q (s.off (cl size 8))) := hb1
  have HK1 : Hid (Only q w w1) := hk1
  clear hb1 hk1
  go_wp2_with fail
  refine (width_any size _).mono ?_
  rintro e w' ⟨rfl, rfl⟩
  go_wp2_with fail
  refine (refSigned_any _ _ _).mono ?_
  rintro e w2 ⟨rfl, hb2⟩
  rw [E.out]
  have HB2 : Hid (Below w'.heap.size w' w2) := hb2
  clear hb2
  go_wp2
  go_ret
  exact ⟨rfl, HB1.out.below HB2.out, HK1.out.trans (Only.ofBelow HB2.out)⟩

set_option maxHeartbeats 400000 in
theorem refText_any {w : World} {q : Nat} {s : RS} (h : IsB w q s) :
    Calls Try.prog 20 #[.pointer (some ⟨q, 0, none⟩)] w fun e w' => e = .returned (.string (strN s.text)) ∧ IsB w' q s.offText ∧ Only q w w' := by
  have H : Hid (IsB w q s) := h
  have HG : Hid (getO (s.oct 2) = (getL (s.oct 2) : Nat)) := by
    refine (getO_two (s.oct 2) (RS.oct_ok ⟨h.2.1, h.2.2.1⟩).1 ?_).1
    unfold RS.oct
    split
    · rw [List.length_take]; omega
    · simp
  clear h
  go_enter Try.func20, Try.ntmps20
  go_wp2_with fail
  refine (refNum_any H.out 2).mono ?_
  rintro e w1 ⟨rfl, hb1, hk1⟩
  rw [show cl 2 8 = 2 by decide] at hb1 ⊢
  rw [HG.out]
  have HB1 : Hid (IsB w1 q (s.off 2)) := hb1
  have HK1 : Hid (Only q w w1) := hk1
  clear hb1 hk1
  go_wp2_with fail
  refine (refTake_any HB1.out (getL (s.oct 2))).mono ?_
  rintro e w2 ⟨rfl, hb2, hk2⟩
  have HB2 : Hid (IsB w2 q s.offText) := hb2
  have HK2 : Hid (Only q w w2) := HK1.out.trans hk2
  clear hb2 hk2
  go_wp2
  go_ret
  exact ⟨rfl, HB2.out, HK2.out⟩
end Go.Proofs.Ytclondljjfljpaa
