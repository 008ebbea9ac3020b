/- Contract of entry.take: a mapped page off a reading. -/
import Derived.Test.YtfclhehpbniapaaDoorRefPut11
import Derived.Test.YtfclhehpbniapaaDoorGetMath11
import Derived.Test.YtfclhehpbniapaaDoorWalkNum10
import Derived.Test.YtfclhehpbniapaaDoorWalkText4
import Derived.Deep.DeepMust
namespace Go.Proofs.YtfclhehpbniapaaDoor
open Go.RowKit
set_option linter.unusedVariables false

abbrev mval (m : Md) : Value := .agg #[.int .i64 m.h, .int .i64 m.p, .int .i64 m.s, .int .i64 m.g, .int .u32 (m.u : Nat)]
/-- A page out of octets, as the program has it: a number that no key has makes it the zero key's. -/
def recP (zs : List Nat) : Md := ⟨(ofK (getO (zs.take 4))).1, (ofK (getO (zs.take 4))).2, getO ((zs.drop 4).take 4), getO ((zs.drop 8).take 6), (getO ((zs.drop 14).take 4)).toNat⟩
theorem oct_can {zs : List Nat} {k : Nat} (h : k ≤ zs.length) : (RS.mk zs false).oct k = zs.take k ∧ (RS.mk zs false).off k = ⟨zs.drop k, false⟩ := by
  have hc : (RS.mk zs false).can k = true := RS.can_iff.2 ⟨rfl, h⟩
  exact ⟨if_pos hc, if_pos hc⟩
theorem rnum_take {w : World} {p : Nat} {zs : List Nat} (hR : IsR w p ⟨zs, false⟩) (k : Nat) (hk : k ≤ zs.length) (h8 : k ≤ 8) :
    Calls Tryd.prog 20 #[.pointer (some ⟨p, 0, none⟩), .int .i64 (k : Nat)] w fun e w' => e = .returned (.int .i64 (getO (zs.take k))) ∧ IsR w' p ⟨zs.drop k, false⟩ ∧ Only p w w' := by
  have := rnum_any hR (k : Nat)
  rw [show cl (k : Nat) 8 = k by unfold cl; omega, (oct_can hk).1, (oct_can hk).2] at this
  exact this
theorem Tryd.sizeM11 : (Tryd.prog.info? 51).map (·.size) = some 5 := by kernel_rfl
theorem range_five {w : World} {X : Nat} {C : Array Value} {T : TypeId} {r : Nat × Nat} (h : w.heap[X]? = some (.cells C T r)) : w.rangeAt X 0 C.toList := fun j v hj => by
  rw [cell_of_row w X _ _ _ _ h, Nat.zero_add]
  simpa using hj
theorem there_five {w : World} {X n : Nat} {C : Array Value} {T : TypeId} (h : w.heap[X]? = some (.cells C T (0, 0))) (hn : n ≤ C.size) : w.there X 0 n := fun j hj => by
  rw [Nat.zero_add]
  refine ⟨?_, by simp [World.frozen?, h]⟩
  rw [cell_of_row w X _ _ _ _ h, Array.getElem?_eq_getElem (by omega)]
  rfl
theorem load_mval {w : World} {b : Nat} {m : Md} (h : w.rangeAt b 0 (encM m)) : (loadVar 51 ⟨b, 0, none⟩).run Tryd.prog w = .ok (mval m) w :=
  run_loadVar_mid (P := Tryd.prog) _ b 0 51 (encM m) _ h Tryd.underlying51 rfl Tryd.sizeM11
theorem wrapU32 {u : Nat} (h : u < 4294967296) : IntKind.u32.wrap (u : Int) = (u : Int) := by rw [IntKind.wrap_u32]; omega
theorem nat_of_bd {z : Int} (h : 0 ≤ z ∧ z < 4294967296) : ∃ u : Nat, z = (u : Int) ∧ u < 4294967296 := ⟨z.toNat, by omega, by omega⟩

set_option maxRecDepth 20000 in
set_option maxHeartbeats 2000000 in
theorem take11_any {w : World} {p : Nat} {zs : List Nat} (hR : IsR w p ⟨zs, false⟩) (h18 : 18 ≤ zs.length) :
    Calls Tryd.prog 22 #[.pointer (some ⟨p, 0, none⟩)] w fun e w' => e = .returned (mval (recP zs)) ∧ IsR w' p ⟨zs.drop 18, false⟩ ∧ Only p w w' := by
  have hsm := hR.oct
  simp only at hsm
  have hpl := hR.lt
  obtain ⟨X, hX⟩ : ∃ X, X = w.heap.size := ⟨_, rfl⟩
  obtain ⟨V, hV⟩ : ∃ V, V = w.alloc (.cells #[.int .i64 0, .int .i64 0, .int .i64 0, .int .i64 0, .int .u32 0] 51) := ⟨_, rfl⟩
  have HR0 : Hid (IsR V p ⟨zs, false⟩) := by rw [hV]; exact hR.alloc _
  have HO0 : Hid (Only p w V) := by rw [hV]; exact (Only.refl _ _).alloc _
  have HG0 : Hid (V.heap[X]? = some (.cells #[.int .i64 0, .int .i64 0, .int .i64 0, .int .i64 0, .int .u32 0] 51 (0, 0))) := by rw [hV, hX]; exact heap_alloc_new _ _
  have HXP : Hid (X ≠ p) := by unfold Hid; omega
  have HL : Hid (18 ≤ zs.length) := h18
  have b1 := getO_bd (zs := zs.take 4) (fun z hz => hsm z (List.mem_of_mem_take hz)) (k := 4) (by rw [List.length_take]; omega) (by decide)
  have b4 := getO_bd (zs := (zs.drop 14).take 4) (fun z hz => hsm z (List.mem_of_mem_drop (List.mem_of_mem_take hz))) (k := 4) (by rw [List.length_take, List.length_drop]; omega) (by decide)
  obtain ⟨U, hU, hUb⟩ := nat_of_bd (z := getO ((zs.drop 14).take 4)) b4
  have HM : Hid (recP zs = ⟨(ofK (getO (zs.take 4))).1, (ofK (getO (zs.take 4))).2, getO ((zs.drop 4).take 4), getO ((zs.drop 8).take 6), U⟩) := by unfold Hid recP; rw [hU, Int.toNat_natCast]
  have HN1 : Hid (∀ W, IsR W p ⟨zs, false⟩ → Calls Tryd.prog 20 #[.pointer (some ⟨p, 0, none⟩), .int .i64 4] W fun e w' => e = .returned (.int .i64 (getO (zs.take 4))) ∧ IsR w' p ⟨zs.drop 4, false⟩ ∧ Only p W w') := fun W h => rnum_take h 4 (by omega) (by decide)
  have HN2 : Hid (∀ W, IsR W p ⟨zs.drop 4, false⟩ → Calls Tryd.prog 20 #[.pointer (some ⟨p, 0, none⟩), .int .i64 4] W fun e w' => e = .returned (.int .i64 (getO ((zs.drop 4).take 4))) ∧ IsR w' p ⟨zs.drop 8, false⟩ ∧ Only p W w') := fun W h => by
    have := rnum_take h 4 (by rw [List.length_drop]; omega) (by decide)
    rwa [List.drop_drop] at this
  have HN3 : Hid (∀ W, IsR W p ⟨zs.drop 8, false⟩ → Calls Tryd.prog 20 #[.pointer (some ⟨p, 0, none⟩), .int .i64 6] W fun e w' => e = .returned (.int .i64 (getO ((zs.drop 8).take 6))) ∧ IsR w' p ⟨zs.drop 14, false⟩ ∧ Only p W w') := fun W h => by
    have := rnum_take h 6 (by rw [List.length_drop]; omega) (by decide)
    rwa [List.drop_drop] at this
  have HN4 : Hid (∀ W, IsR W p ⟨zs.drop 14, false⟩ → Calls Tryd.prog 20 #[.pointer (some ⟨p, 0, none⟩), .int .i64 4] W fun e w' => e = .returned (.int .i64 (U : Nat)) ∧ IsR w' p ⟨zs.drop 18, false⟩ ∧ Only p W w') := fun W h => by
    have := rnum_take h 4 (by rw [List.length_drop]; omega) (by decide)
    rw [List.drop_drop, hU] at this
    exact this
  have HKO : Hid (∀ W, Calls Tryd.prog 34 #[.int .i64 (getO (zs.take 4))] W fun e w' => e = .returned (.tuple #[.agg #[.int .i64 (ofK (getO (zs.take 4))).1, .int .i64 (ofK (getO (zs.take 4))).2], .bool (isR (getO (zs.take 4) / 4096, getO (zs.take 4) % 4096))]) ∧ Below W.heap.size W w') := fun W => keyOf_any _ ⟨by omega, by omega⟩ W
  have hwu := wrapU32 hUb
  rw [HM.out]
  generalize isR (getO (zs.take 4) / 4096, getO (zs.take 4) % 4096) = KB at *
  generalize (ofK (getO (zs.take 4))).1 = kh at *
  generalize (ofK (getO (zs.take 4))).2 = kp at *
  generalize getO (zs.take 4) = g1 at *
  generalize getO ((zs.drop 4).take 4) = g2 at *
  generalize getO ((zs.drop 8).take 6) = g3 at *
  clear hR hsm HM hU b4 HL b1 h18
  subst hX
  go_enter Tryd.func22, Tryd.ntmps22
  go_wp2_with fail
  rw [← hV]
  clear hV
  refine (HN1.out V HR0.out).mono ?_
  rintro e w1 ⟨rfl, hr1, hk1⟩
  have HR1 : Hid (IsR w1 p ⟨zs.drop 4, false⟩) := hr1
  have HO1 : Hid (Only p V w1) := hk1
  clear hr1 hk1 HN1
  go_wp2_with fail
  refine (HKO.out w1).mono ?_
  rintro e w2 ⟨rfl, hb2⟩
  have HR2 : Hid (IsR w2 p ⟨zs.drop 4, false⟩) := HR1.out.same hb2
  have HO2 : Hid (Only p V w2) := HO1.out.trans (Only.ofBelow hb2)
  clear hb2 HKO HR1 HO1
  obtain ⟨Y, hY⟩ : ∃ Y, Y = w2.heap.size := ⟨_, rfl⟩
  obtain ⟨W2, hW2⟩ : ∃ W2, W2 = w2.alloc (.cells #[.int .i64 kh, .int .i64 kp] 23) := ⟨_, rfl⟩
  have HG2 : Hid (W2.heap[Y]? = some (.cells #[.int .i64 kh, .int .i64 kp] 23 (0, 0))) := by rw [hW2, hY]; exact heap_alloc_new _ _
  have HR3 : Hid (IsR W2 p ⟨zs.drop 4, false⟩) := by rw [hW2]; exact HR2.out.alloc _
  have HO3 : Hid (Only p V W2) := by rw [hW2]; exact HO2.out.alloc _
  have HYP : Hid (Y ≠ p) := by
    have := HR2.out.lt
    unfold Hid; omega
  go_wp2_with fail
  rw [← hW2]
  try rw [← hY]
  clear hW2 hY HR2 HO2
  refine (HN2.out W2 HR3.out).mono ?_
  rintro e w4 ⟨rfl, hr4, hk4⟩
  have HR4 : Hid (IsR w4 p ⟨zs.drop 8, false⟩) := hr4
  have HO4 : Hid (Only p W2 w4) := hk4
  clear hr4 hk4 HN2
  go_wp2_with fail
  refine (HN3.out w4 HR4.out).mono ?_
  rintro e w5 ⟨rfl, hr5, hk5⟩
  have HR5 : Hid (IsR w5 p ⟨zs.drop 14, false⟩) := hr5
  have HO5 : Hid (Only p W2 w5) := HO4.out.trans hk5
  clear hr5 hk5 HN3 HR4 HO4
  go_wp2_with fail
  refine (HN4.out w5 HR5.out).mono ?_
  rintro e w6 ⟨rfl, hr6, hk6⟩
  have HR6 : Hid (IsR w6 p ⟨zs.drop 18, false⟩) := hr6
  have HO6 : Hid (Only p W2 w6) := HO5.out.trans hk6
  clear hr6 hk6 HN4 HR5 HO5
  have HG6 : Hid (w6.heap[Y]? = some (.cells #[.int .i64 kh, .int .i64 kp] 23 (0, 0))) := (HO6.out.heap (lt_of_heap HG2.out) HYP.out).trans HG2.out
  have HX6 : Hid (w6.heap[w.heap.size]? = some (.cells #[.int .i64 0, .int .i64 0, .int .i64 0, .int .i64 0, .int .u32 0] 51 (0, 0))) := ((HO3.out.trans HO6.out).heap (lt_of_heap HG0.out) HXP.out).trans HG0.out
  have hge : Below w6.heap.size w6 (w6.alloc (.cells #[.int .i64 g2, .int .i64 g3, .int .u32 (U : Nat)] 49)) := (Below.refl _ _).alloc (Nat.le_refl _) _
  have c0 : (w6.alloc (.cells #[.int .i64 g2, .int .i64 g3, .int .u32 (U : Nat)] 49)).cell? ⟨Y, 0, none⟩ = some (.int .i64 kh) := by rw [cell_of_row _ Y _ _ _ _ ((hge.block Y (lt_of_heap HG6.out)).trans HG6.out)]; rfl
  have c1 : (w6.alloc (.cells #[.int .i64 g2, .int .i64 g3, .int .u32 (U : Nat)] 49)).cell? ⟨Y, 1, none⟩ = some (.int .i64 kp) := by rw [cell_of_row _ Y _ _ _ _ ((hge.block Y (lt_of_heap HG6.out)).trans HG6.out)]; rfl
  obtain ⟨c2, c3, c4⟩ := new_three w6 (.int .i64 g2) (.int .i64 g3) (.int .u32 (U : Nat)) 49
  have HX7 : Hid ((w6.alloc (.cells #[.int .i64 g2, .int .i64 g3, .int .u32 (U : Nat)] 49)).heap[w.heap.size]? = some (.cells #[.int .i64 0, .int .i64 0, .int .i64 0, .int .i64 0, .int .u32 0] 51 (0, 0))) := (hge.block w.heap.size (lt_of_heap HX6.out)).trans HX6.out
  have HR7 : Hid (IsR (w6.alloc (.cells #[.int .i64 g2, .int .i64 g3, .int .u32 (U : Nat)] 49)) p ⟨zs.drop 18, false⟩) := HR6.out.same hge
  have HO7 : Hid (Only p w (w6.alloc (.cells #[.int .i64 g2, .int .i64 g3, .int .u32 (U : Nat)] 49))) := ((HO0.out.trans HO3.out).trans HO6.out).trans (Only.ofBelow hge)
  clear hge HR6 HO6 HG6 HX6 HG2 HR3 HO3 HG0 HR0 HO0
  have HTH : Hid ((w6.alloc (.cells #[.int .i64 g2, .int .i64 g3, .int .u32 (U : Nat)] 49)).there w.heap.size 0 (encM ⟨kh, kp, g2, g3, U⟩).toArray.size) := there_five HX7.out (Nat.le_refl _)
  have HSZ : Hid ((Tryd.prog.info? 51).map (·.size) = some (encM ⟨kh, kp, g2, g3, U⟩).toArray.size) := Tryd.sizeM11
  go_wp2_with (with_reducible show wpList _ _ _ (Oper.mk _ (Op.store 51 _ _) _ _ _ _ :: _) _ _; go_must (refine wpList_store_mid rfl 51 _ _ rfl w.heap.size 0 (encM ⟨kh, kp, g2, g3, U⟩).toArray rfl rfl HTH.out HSZ.out (all_oneCell_toArray (encM_ok.one _)) ?_))
  have HLD := load_mval (m := ⟨kh, kp, g2, g3, U⟩) (World.rangeAt_setCells_same _ w.heap.size 0 (encM ⟨kh, kp, g2, g3, U⟩) HTH.out)
  go_wp2
  refine bodyPost_ret (results_cell1 rfl rfl HLD) rfl ⟨rfl, ?_, ?_⟩
  · refine HR7.out.only (q := w.heap.size) ?_ (fun e => HXP.out e.symm) ?_
    · intro i z e
      rw [cell_of_row _ w.heap.size _ _ _ _ HX7.out] at e
      match i, e with
      | 0, e => simp at e
      | 1, e => simp at e
      | 2, e => simp at e
      | 3, e => simp at e
      | 4, e => simp at e
      | i + 5, e => simp at e
    · exact Kept.setCells (K := fun k => k < (w6.alloc (.cells #[.int .i64 g2, .int .i64 g3, .int .u32 (U : Nat)] 49)).heap.size ∧ k ≠ w.heap.size) (Kept.refl _ _) (fun h => h.2 rfl) _ _
  · refine Kept.setCells (K := fun k => k < w.heap.size ∧ k ≠ p) HO7.out (fun h => ?_) _ _
    have := h.1
    exact absurd this (Nat.lt_irrefl _)
end Go.Proofs.YtfclhehpbniapaaDoor
