/- Contract of the program's 'Get' of a part. -/
import Derived.Test.YtndeknkfljnjoaaDoorWalkPut6
import Derived.Test.YtndeknkfljnjoaaDoorWalkRefGet6
import Derived.Test.YtndeknkfljnjoaaDoorWalkBytes
import Derived.Deep.DeepMust
namespace Go.Proofs.YtndeknkfljnjoaaDoor
open Go.RowKit
set_option linter.unusedVariables false

/-- A number off a reading of which k octets are gone. -/
theorem rnum_at {w : World} {p : Nat} {zs : List Nat} (k n : Nat) (hR : IsR w p ⟨zs.drop k, false⟩) (hn : n ≤ 8) (h : k + n ≤ zs.length) :
    Calls Tryd.prog 25 #[.pointer (some ⟨p, 0, none⟩), .int .i64 (n : Nat)] w fun e w' => e = .returned (.int .i64 (getO ((zs.drop k).take n))) ∧ IsR w' p ⟨zs.drop (k + n), false⟩ ∧ Only p w w' := by
  refine (rnum_any hR (n : Nat)).mono ?_
  have e1 : cl (n : Nat) 8 = n := by unfold cl; omega
  have hc : RS.can ⟨zs.drop k, false⟩ n = true := RS.can_iff.2 ⟨rfl, by show n ≤ (zs.drop k).length; rw [List.length_drop]; omega⟩
  rintro e w' ⟨rfl, h1, h2⟩
  rw [e1] at h1 ⊢
  have o1 : RS.oct ⟨zs.drop k, false⟩ n = (zs.drop k).take n := if_pos hc
  have o2 : RS.off ⟨zs.drop k, false⟩ n = ⟨(zs.drop k).drop n, false⟩ := if_pos hc
  rw [o2, List.drop_drop] at h1
  rw [o1]
  exact ⟨rfl, h1, h2⟩
theorem PA.noOct {w : World} {b : Nat} {f : Bool} {e n i : Int} {a : Option Addr} {l c : Nat} (h : PA w b f e n i (.slice a l c)) : NoOct w b := by
  intro k z hz
  rw [cell_of_row _ _ _ _ _ _ h] at hz
  match k with
  | 0 => simp at hz
  | 1 => simp at hz
  | 2 => simp at hz
  | 3 => simp at hz
  | 4 => simp at hz
  | k + 5 => simp at hz
theorem Only.setCells {p : Nat} {a w : World} (h : Only p a w) (o : Nat) (vs : List Value) : Only p a (w.setCells p o vs) := Kept.setCells h (fun e => e.2 rfl) o vs
/-- What the program reads out of a sector. -/
def readQ (zs : List Nat) : Part := { readP zs with data := (zs.drop 12).take (min (zs[11]?.getD 0) 112) }
theorem getP_readQ (zs : List Nat) (h : zs.length = 128) : getP zs = if okP (readQ zs) = true ∧ sect6 (readQ zs) = zs then some (readQ zs) else none := by
  by_cases hc : zs[11]?.getD 0 ≤ 112
  · have e : readQ zs = readP zs := by unfold readQ readP; rw [Nat.min_eq_left hc]
    rw [e]
    unfold getP getB
    rw [decide_eq_true h, decide_eq_true hc]
    by_cases h1 : okP (readP zs) = true
    · by_cases h2 : sect6 (readP zs) = zs
      · rw [h1, decide_eq_true h2, if_pos (by rfl), if_pos ⟨rfl, h2⟩]
      · rw [decide_eq_false h2, h1, if_neg (by simp), if_neg fun e => h2 e.2]
    · have h1' : okP (readP zs) = false := by simpa using h1
      rw [h1', if_neg (by simp), if_neg (by simp)]
  · have n1 : getP zs = none := by
      unfold getP getB
      rw [decide_eq_false hc]
      simp
    have hl : (readQ zs).data.length = 112 := by
      show ((zs.drop 12).take (min (zs[11]?.getD 0) 112)).length = 112
      have : min (zs[11]?.getD 0) 112 = 112 := by omega
      rw [this, List.length_take, List.length_drop, h]; decide
    rw [n1, if_neg]
    rintro ⟨-, e⟩
    have := sect6_eleven (readQ zs) (by omega)
    rw [e, hl] at this
    omega
theorem getO_one (zs : List Nat) (k : Nat) (h : k < zs.length) (hz : ∀ z ∈ zs, z < 256) : getO ((zs.drop k).take 1) = (zs[k]?.getD 0 : Nat) := by
  have e : (zs.drop k).take 1 = [zs[k]] := by rw [List.drop_eq_getElem_cons h, List.take_succ_cons, List.take_zero]
  have h1 := hz zs[k] (List.getElem_mem h)
  rw [e, List.getElem?_eq_getElem h, (getO_two [zs[k]] (by intro z hz'; rw [List.mem_singleton] at hz'; omega) (by simp)).1]
  simp [getL]

set_option maxHeartbeats 800000 in
set_option maxRecDepth 20000 in
theorem get6_128 (v : Value) (zs : List Nat) (w : World) (ho : Octs w v zs) (hn : zs.length = 128) (ht : Steps w) : Calls Tryd.prog 9 #[v] w fun x w' => ∃ u, x = .returned (gotV (getP zs) u) ∧ Octs w' u ((getP zs).getD Part.zero).data ∧ Below w.heap.size w w' := by
  have HO : Hid (Octs w v zs) := ho
  have HN : Hid (zs.length = 128) := hn
  have HT : Hid (Steps w) := ht
  have HG : Hid (getP zs = if okP (readQ zs) = true ∧ sect6 (readQ zs) = zs then some (readQ zs) else none) := getP_readQ zs hn
  obtain ⟨a, cap, rfl⟩ := ho.shape
  have hcap := ho.capLe
  obtain ⟨b, off, rfl, hb, -⟩ := ho.addr (by omega)
  rw [hn] at HO hcap ⊢
  obtain ⟨r, hr⟩ : ∃ r, r = readQ zs := ⟨_, rfl⟩
  rw [← hr] at HG
  obtain ⟨c, hc⟩ : ∃ c, c = zs[11]?.getD 0 := ⟨_, rfl⟩
  have hc8 : c < 256 := by rw [hc]; exact getD_small zs ho.small 11
  obtain ⟨M, hM⟩ : ∃ M, M = min (12 + c) 124 := ⟨_, rfl⟩
  have HX1 : Hid (getO ((zs.drop 0).take 1) = (zs[0]?.getD 0 : Nat)) := getO_one zs 0 (by omega) ho.small
  have HX5 : Hid (getO ((zs.drop 11).take 1) = (c : Nat)) := by unfold Hid; rw [hc]; exact getO_one zs 11 (by omega) ho.small
  have HE : Hid (getO ((zs.drop 1).take 4) = r.epoch ∧ getO ((zs.drop 5).take 4) = r.number ∧ getO ((zs.drop 9).take 2) = r.index) := by rw [hr]; exact ⟨rfl, rfl, rfl⟩
  have HDat : Hid ((zs.drop 12).take (M - 12) = r.data) := by
    show _ = _
    rw [hr, hM, hc]
    show _ = (zs.drop 12).take (min (zs[11]?.getD 0) 112)
    congr 1
    omega
  obtain ⟨x1, hx1⟩ : ∃ x1 : Nat, x1 = zs[0]?.getD 0 := ⟨_, rfl⟩
  rw [← hx1] at HX1
  have hf1 : decide ((x1 : Int) = 70) = r.foot := by
    rw [hr, hx1]
    show _ = decide (zs[0]?.getD 0 = 70)
    rw [decide_eq_decide]
    omega
  have hf2 : ((x1 : Int) == 70) = r.foot := by rw [← hf1]; by_cases h : (x1 : Int) = 70 <;> simp [h]
  have hM1 : (12 : Int) ≤ (M : Nat) := by omega
  have hM2 : (M : Int) ≤ cap := by omega
  have hM3 : M ≤ 124 := by omega
  have em1 : (if (124 : Int) < 12 + (c : Nat) then (124 : Int) else 12 + (c : Nat)) = (M : Nat) := by split <;> omega
  have em4 : IntKind.i64.wrap (12 + (c : Nat)) = 12 + (c : Nat) := by rw [IntKind.wrap_i64]; omega
  have em5 : ¬ cap = 12 := by omega
  have HM : Hid (M - 12 ≤ 116) := by unfold Hid; omega
  have W1 : Hid (Below w.heap.size w (w.alloc (.cells #[.bool false, .int .i64 0, .int .i64 0, .int .i64 0, .slice none 0 0] 24))) := (Below.refl _ _).alloc (Nat.le_refl _) _
  have W2 : Hid (PA (w.alloc (.cells #[.bool false, .int .i64 0, .int .i64 0, .int .i64 0, .slice none 0 0] 24)) w.heap.size false 0 0 0 (.slice none 0 0)) := heap_alloc_new w _
  have W3 : Hid ((w.alloc (.cells #[.bool false, .int .i64 0, .int .i64 0, .int .i64 0, .slice none 0 0] 24)).heap.size = w.heap.size + 1) := by simp [Hid]
  clear ho hn ht hr hc hM hx1
  go_enter Tryd.func9, Tryd.ntmps9
  go_wp2_with fail
  generalize w.alloc (.cells #[.bool false, .int .i64 0, .int .i64 0, .int .i64 0, .slice none 0 0] 24) = V at *
  refine (read_octs _ zs V (HO.out.kept W1.out) (by rw [HN.out]; decide)).mono ?_
  rintro x w1 ⟨p, rfl, hR, hB, hp⟩
  have HR0 : Hid (IsR w1 p ⟨zs.drop 0, false⟩) := hR
  have HB0 : Hid (Below V.heap.size V w1) := hB
  have HP : Hid (V.heap.size ≤ p) := hp
  clear hR hB hp
  go_wp2_with fail
  refine (rnum_at 0 1 HR0.out (by decide) (by rw [HN.out]; decide)).mono ?_
  rintro x w2 ⟨rfl, hR, hK⟩
  rw [HX1.out]
  have HR1 : Hid (IsR w2 p ⟨zs.drop 1, false⟩) := hR
  have HB1 : Hid (Below V.heap.size V w2) := HB0.out.trans (hK.below HP.out HB0.out.size)
  clear hR hK HR0 HB0
  go_wp2_with fail
  refine (rnum_at 1 4 HR1.out (by decide) (by rw [HN.out]; decide)).mono ?_
  rintro x w3 ⟨rfl, hR, hK⟩
  rw [HE.out.1]
  have HR2 : Hid (IsR w3 p ⟨zs.drop 5, false⟩) := hR
  have HB2 : Hid (Below V.heap.size V w3) := HB1.out.trans (hK.below HP.out HB1.out.size)
  clear hR hK HR1 HB1
  go_wp2_with fail
  refine (rnum_at 5 4 HR2.out (by decide) (by rw [HN.out]; decide)).mono ?_
  rintro x w4 ⟨rfl, hR, hK⟩
  rw [HE.out.2.1]
  have HR3 : Hid (IsR w4 p ⟨zs.drop 9, false⟩) := hR
  have HB3 : Hid (Below V.heap.size V w4) := HB2.out.trans (hK.below HP.out HB2.out.size)
  clear hR hK HR2 HB2
  go_wp2_with fail
  refine (rnum_at 9 2 HR3.out (by decide) (by rw [HN.out]; decide)).mono ?_
  rintro x w5 ⟨rfl, hR, hK⟩
  rw [HE.out.2.2]
  have HR4 : Hid (IsR w5 p ⟨zs.drop 11, false⟩) := hR
  have HB4 : Hid (Below V.heap.size V w5) := HB3.out.trans (hK.below HP.out HB3.out.size)
  clear hR hK HR3 HB3
  go_wp2_with fail
  have HQ5 : Hid (PA (w5.alloc (.cells #[.bool r.foot, .int .i64 r.epoch, .int .i64 r.number, .int .i64 r.index, .slice none 0 0] 24)) w5.heap.size r.foot r.epoch r.number r.index (.slice none 0 0)) := heap_alloc_new w5 _
  have HR5 := HR4.out.alloc (.cells #[.bool r.foot, .int .i64 r.epoch, .int .i64 r.number, .int .i64 r.index, .slice none 0 0] 24)
  have HB5 : Hid (Below V.heap.size V (w5.alloc (.cells #[.bool r.foot, .int .i64 r.epoch, .int .i64 r.number, .int .i64 r.index, .slice none 0 0] 24))) := HB4.out.alloc HB4.out.size _
  have HP5 : Hid (p < w5.heap.size) := HR4.out.lt
  have HV5 : Hid (V.heap.size ≤ w5.heap.size) := HB4.out.size
  refine (rnum_at 11 1 HR5 (by decide) (by rw [HN.out]; decide)).mono ?_
  rintro x w6 ⟨rfl, hR, hK⟩
  rw [HX5.out]
  have HB6 : Hid (Below V.heap.size V w6) := HB5.out.trans (hK.below HP.out HB5.out.size)
  have HQ6 : Hid (PA w6 w5.heap.size r.foot r.epoch r.number r.index (.slice none 0 0)) := (hK.heap HQ5.out.lt (by have := HP5.out; omega)).trans HQ5.out
  clear hR hK HR4 HB4 HR5 HB5 HQ5
  have HO6 : Hid (Octs w6 (.slice (some ⟨b, off, none⟩) 128 cap) zs) := (HO.out.kept W1.out).kept (HB6.out)
  have HO6' : Hid (Octs w6 (.slice (some ⟨b, off + 12, none⟩) (M - 12) (cap - 12)) r.data) := by
    have h1 := HO6.out.back (n := 12) (x := off + 12) (by decide) (.inl rfl)
    have h2 := h1.front (n := M - 12) HM.out
    rwa [HDat.out] at h2
  go_wp2_with fail
  refine (clone_octs _ r.data w6 HO6'.out (by rw [← HDat.out, List.length_take]; have := HM.out; omega)).mono ?_
  rintro x w7 ⟨u, rfl, hu, hB⟩
  have HO7 : Hid (Octs w7 u r.data) := hu
  have HB7 : Hid (Below V.heap.size V w7) := HB6.out.trans (hB.mono HB6.out.size)
  have HQ7 : Hid (PA w7 w5.heap.size r.foot r.epoch r.number r.index (.slice none 0 0)) := HQ6.out.same hB HQ6.out.lt
  obtain ⟨ua, uc, rfl⟩ := hu.shape
  clear hu hB HB6 HQ6 HO6 HO6'
  obtain ⟨q0, q1, q2, q3, q4⟩ := HQ7.out.cells
  have f7 := HQ7.out.frozen 4
  go_wp2_with fail
  clear q0 q1 q2 q3 q4 f7
  have HNO : Hid (NoOct w7 w5.heap.size) := HQ7.out.noOct
  have HOn : Hid (Only w5.heap.size w7 (w7.setCell ⟨w5.heap.size, 4, none⟩ (.slice ua r.data.length uc))) := (Only.refl _ _).setCell _ _
  have HO8 : Hid (Octs (w7.setCell ⟨w5.heap.size, 4, none⟩ (.slice ua r.data.length uc)) (.slice ua r.data.length uc) r.data) := HO7.out.only HNO.out HOn.out
  have HB8 : Hid (Below V.heap.size V (w7.setCell ⟨w5.heap.size, 4, none⟩ (.slice ua r.data.length uc))) := HB7.out.setCell (p := ⟨w5.heap.size, 4, none⟩) HV5.out _
  have HQ8 : Hid (PA (w7.setCell ⟨w5.heap.size, 4, none⟩ (.slice ua r.data.length uc)) w5.heap.size r.foot r.epoch r.number r.index (.slice ua r.data.length uc)) := HQ7.out.set4 _
  clear HNO HOn HO7 HB7 HQ7
  generalize w7.setCell ⟨w5.heap.size, 4, none⟩ (.slice ua r.data.length uc) = w8 at *
  have HS8 : Hid (Steps w8) := (HT.out.below W1.out).below HB8.out
  have HB8' : Hid (Below w.heap.size w w8) := W1.out.trans (HB8.out.mono W1.out.size)
  by_cases hok : okP r = true
  · refine (put6_ok r _ w8 hok HO8.out HS8.out).mono ?_
    rintro x w9 ⟨u9, rfl, hu9, hb9⟩
    have HO9 : Hid (Octs w9 u9 (sect6 r)) := hu9
    have HD9 : Hid (Octs w9 (.slice ua r.data.length uc) r.data) := HO8.out.kept hb9
    have HZ9 : Hid (Octs w9 (.slice (some ⟨b, off, none⟩) 128 cap) zs) := (HO.out.kept HB8'.out).kept (hb9.mono (Nat.le_refl _))
    have HB9 : Hid (Below w.heap.size w w9) := HB8'.out.trans (hb9.mono HB8'.out.size)
    have HQ9 : Hid (PA w9 w5.heap.size r.foot r.epoch r.number r.index (.slice ua r.data.length uc)) := HQ8.out.same hb9 HQ8.out.lt
    have FZ9 : Hid (PA w9 w.heap.size false 0 0 0 (.slice none 0 0)) := (W2.out.same HB8.out W2.out.lt).same hb9 (by have := HB8.out.size; have := W2.out.lt; omega)
    clear hu9 hb9 HO8 HB8 HB8' HQ8 HS8
    go_wp2_with fail
    refine (equal_octs _ _ _ _ _ HO9.out HZ9.out).mono ?_
    rintro x w10 ⟨rfl, rfl⟩
    by_cases hs : sect6 r = zs
    · have HV : Hid (getP zs = some r) := by unfold Hid; rw [HG.out, if_pos ⟨hok, hs⟩]
      rw [decide_eq_true hs]
      clear hs
      obtain ⟨q0, q1, q2, q3, q4⟩ := HQ9.out.cells
      go_wp2_with ((with_reducible show wpList _ _ _ (Oper.mk _ (Op.store _ _ _) _ _ _ _ :: _) _ _); go_must (refine wpList_store_mid rfl 24 _ _ rfl w.heap.size 0 #[.bool r.foot, .int .i64 r.epoch, .int .i64 r.number, .int .i64 r.index, .slice ua r.data.length uc] rfl rfl FZ9.out.there Tryd.sizeP6 (pa_one _ _ _ _ _ _ _) ?_))
      go_wp2
      refine bodyPost_ret (v := .tuple #[.agg #[.bool r.foot, .int .i64 r.epoch, .int .i64 r.number, .int .i64 r.index, .slice ua r.data.length uc], .bool true]) (results_cell2 rfl rfl rfl (pa_loadSet FZ9.out r.foot r.epoch r.number r.index (.slice ua r.data.length uc))) rfl ⟨_, (by rw [HV.out]; rfl), ?_, below_setCells HB9.out (Nat.le_refl _) _ _⟩
      rw [HV.out]
      exact HD9.out.only FZ9.out.noOct (Only.setCells (Only.refl _ _) _ _)
    · have HV : Hid (getP zs = none) := by unfold Hid; rw [HG.out, if_neg fun e => hs e.2]
      rw [decide_eq_false hs]
      clear hs
      go_wp2_with ((with_reducible show wpList _ _ _ (Oper.mk _ (Op.store _ _ _) _ _ _ _ :: _) _ _); go_must (refine wpList_store_mid rfl 24 _ _ rfl w.heap.size 0 #[.bool false, .int .i64 0, .int .i64 0, .int .i64 0, .slice none 0 0] rfl rfl FZ9.out.there Tryd.sizeP6 (pa_one _ _ _ _ _ _ _) ?_))
      go_wp2
      exact bodyPost_ret (v := gotV none (.slice none 0 0)) (results_cell2 rfl rfl rfl (pa_loadSet FZ9.out false 0 0 0 (.slice none 0 0))) rfl ⟨.slice none 0 0, (by rw [HV.out]), (by rw [HV.out]; exact octs_nil _), below_setCells HB9.out (Nat.le_refl _) _ _⟩
  · have hok' : okP r = false := by simpa using hok
    have HV : Hid (getP zs = none) := by unfold Hid; rw [HG.out, if_neg fun e => hok e.1]
    clear hok
    refine (put6_no r _ w8 hok' HO8.out).mono ?_
    rintro x w9 ⟨rfl, hb9⟩
    have HB9 : Hid (Below w.heap.size w w9) := HB8'.out.trans (hb9.mono HB8'.out.size)
    have FZ9 : Hid (PA w9 w.heap.size false 0 0 0 (.slice none 0 0)) := (W2.out.same HB8.out W2.out.lt).same hb9 (by have := HB8.out.size; have := W2.out.lt; omega)
    clear hb9 HO8 HB8 HB8' HQ8 HS8
    go_wp2_with ((with_reducible show wpList _ _ _ (Oper.mk _ (Op.store _ _ _) _ _ _ _ :: _) _ _); go_must (refine wpList_store_mid rfl 24 _ _ rfl w.heap.size 0 #[.bool false, .int .i64 0, .int .i64 0, .int .i64 0, .slice none 0 0] rfl rfl FZ9.out.there Tryd.sizeP6 (pa_one _ _ _ _ _ _ _) ?_))
    go_wp2
    exact bodyPost_ret (v := gotV none (.slice none 0 0)) (results_cell2 rfl rfl rfl (pa_loadSet FZ9.out false 0 0 0 (.slice none 0 0))) rfl ⟨.slice none 0 0, (by rw [HV.out]), (by rw [HV.out]; exact octs_nil _), below_setCells HB9.out (Nat.le_refl _) _ _⟩

set_option maxHeartbeats 400000 in
theorem get6 (v : Value) (zs : List Nat) (w : World) (ho : Octs w v zs) (ht : Steps w) : Calls Tryd.prog 9 #[v] w fun x w' => ∃ u, x = .returned (gotV (getP zs) u) ∧ Octs w' u ((getP zs).getD Part.zero).data ∧ Below w.heap.size w w' := by
  by_cases hn : zs.length = 128
  · exact get6_128 v zs w ho hn ht
  · have HV : Hid (getP zs = none) := by unfold Hid getP getB; rw [decide_eq_false hn]; simp
    have hlen := ho.len
    obtain ⟨a, cap, rfl⟩ := ho.shape
    have hn' : ¬ (zs.length : Int) = 128 := by omega
    have W1 : Hid (Below w.heap.size w (w.alloc (.cells #[.bool false, .int .i64 0, .int .i64 0, .int .i64 0, .slice none 0 0] 24))) := (Below.refl _ _).alloc (Nat.le_refl _) _
    have W2 : Hid (PA (w.alloc (.cells #[.bool false, .int .i64 0, .int .i64 0, .int .i64 0, .slice none 0 0] 24)) w.heap.size false 0 0 0 (.slice none 0 0)) := heap_alloc_new w _
    clear ho ht hn
    go_enter Tryd.func9, Tryd.ntmps9
    go_wp2_with ((with_reducible show wpList _ _ _ (Oper.mk _ (Op.store _ _ _) _ _ _ _ :: _) _ _); go_must (refine wpList_store_mid rfl 24 _ _ rfl w.heap.size 0 #[.bool false, .int .i64 0, .int .i64 0, .int .i64 0, .slice none 0 0] rfl rfl W2.out.there Tryd.sizeP6 (pa_one _ _ _ _ _ _ _) ?_))
    go_wp2
    exact bodyPost_ret (v := gotV none (.slice none 0 0)) (results_cell2 rfl rfl rfl (pa_loadSet W2.out false 0 0 0 (.slice none 0 0))) rfl ⟨.slice none 0 0, (by rw [HV.out]), (by rw [HV.out]; exact octs_nil _), below_setCells W1.out (Nat.le_refl _) _ _⟩
end Go.Proofs.YtndeknkfljnjoaaDoor
