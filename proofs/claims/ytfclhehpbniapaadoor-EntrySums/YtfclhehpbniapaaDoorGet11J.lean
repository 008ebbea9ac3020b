/- Some texts of mine, one behind the other (joined by program). -/
import Derived.Test.YtfclhehpbniapaaDoorRefPut11
import Derived.Test.YtfclhehpbniapaaDoorSuper5
import Derived.Test.YtfclhehpbniapaaDoorWalkNum10
import Derived.Test.YtfclhehpbniapaaDoorWalkText4
import Derived.Deep.DeepMust
import Derived.Test.YtfclhehpbniapaaDoorRefRight11
import Derived.Maps.OwnOps
import Derived.Maps.OwnSet
import Derived.Maps.RangeWalk
import Derived.Test.YtfclhehpbniapaaDoorWalkPut11

/- A list of mapped pages out of octets, and there and back. No Go in sight but the words for octets. -/
namespace Go.Proofs.YtfclhehpbniapaaDoor
open Go.RowKit
set_option linter.unusedVariables false

theorem getO_bd {zs : List Nat} (h : ∀ z ∈ zs, z < 256) {k : Nat} (hl : zs.length = k) (hk : k ≤ 6) : 0 ≤ getO zs ∧ getO zs < 2 ^ (8 * k) := by
  have h1 := getN_bd (zs.map Int.ofNat) (fun b hb => by
    rw [List.mem_map] at hb
    obtain ⟨y, hy, rfl⟩ := hb
    have := h y hy
    simp only [Int.ofNat_eq_natCast]; omega)
  rw [List.length_map, hl] at h1
  have h2 : (2 : Int) ^ (8 * k) ≤ 281474976710656 := by
    have : k = 0 ∨ k = 1 ∨ k = 2 ∨ k = 3 ∨ k = 4 ∨ k = 5 ∨ k = 6 := by omega
    rcases this with e | e | e | e | e | e | e <;> rw [e] <;> decide
  unfold getO getI
  rw [List.take_of_length_le (by rw [List.length_map]; omega)]
  unfold wrap64
  omega
/-- A page out of its octets. -/
def recG (x : List Nat) : Md := ⟨getO (x.take 4) / 4096, getO (x.take 4) % 4096, getO ((x.drop 4).take 4), getO ((x.drop 8).take 6), (getO ((x.drop 14).take 4)).toNat⟩
def sliceG (zs : List Nat) (i : Nat) : List Nat := (zs.drop (4 + 18 * i)).take 18
def listG (zs : List Nat) (k : Nat) : List Md := (List.range k).map fun i => recG (sliceG zs i)
theorem listG_length (zs : List Nat) (k : Nat) : (listG zs k).length = k := by simp [listG]
theorem listG_succ (zs : List Nat) (k : Nat) : listG zs (k + 1) = listG zs k ++ [recG (sliceG zs k)] := by simp [listG, List.range_succ]
def cntG (zs : List Nat) : Nat := (getO (zs.take 4)).toNat
def fitsG (zs : List Nat) : Bool := decide (4 ≤ zs.length ∧ cntG zs ≤ zs.length / 18 ∧ 4 + 18 * cntG zs ≤ zs.length)
/-- The list at the beginning of octets; none: there is none. -/
def getM (n : Int) (zs : List Nat) : Option (List Md) := if fitsG zs = true ∧ rightM n (listG zs (cntG zs)) = true then some (listG zs (cntG zs)) else none
theorem getM_some {n : Int} {zs : List Nat} {l : List Md} (h : getM n zs = some l) : fitsG zs = true ∧ l = listG zs (cntG zs) ∧ rightM n l = true := by
  unfold getM at h
  split at h
  · rename_i hh
    injection h with e
    subst e
    exact ⟨hh.1, rfl, hh.2⟩
  · cases h
theorem getO_octZ6 (n : Int) (h1 : 0 ≤ n) (h2 : n ≤ 281474976710655) : getO (octZ n 6) = n := by
  rw [getO_octZ n 6 (by decide), show (2 : Int) ^ (8 * 6) = 281474976710656 by rfl]
  unfold wrap64; omega
theorem recG_recM {m : Md} (hR : isR m.k = true) (hs : 0 ≤ m.s ∧ m.s ≤ 4294967295) (hg : 0 ≤ m.g ∧ m.g ≤ 281474976710655) (hu : m.u < 4294967296) : recG (recM m) = m := by
  obtain ⟨h, p, s, g, u⟩ := m
  have hr := isR_iff.1 hR
  have hR' : isR (h, p) = true := hR
  have e0 : numK (h, p) = 4096 * h + p := by unfold numK; rw [if_pos hR']
  simp only [Md.k] at hr hR
  simp only at hs hg hu
  have q0 : ((recM ⟨h, p, s, g, u⟩).drop 0).take 4 = octZ (numK (h, p)) 4 := by
    rw [recM, List.append_assoc, List.append_assoc]
    exact take_drop_mid [] _ _ 0 4 rfl (octZ_length _ _)
  have q1 : ((recM ⟨h, p, s, g, u⟩).drop 4).take 4 = octZ s 4 := by
    rw [recM, List.append_assoc, List.append_assoc]
    exact take_drop_mid _ _ _ 4 4 (octZ_length _ _) (octZ_length _ _)
  have q2 : ((recM ⟨h, p, s, g, u⟩).drop 8).take 6 = octZ g 6 := by
    rw [recM, List.append_assoc (octZ _ 4 ++ octZ s 4)]
    exact take_drop_mid _ _ _ 8 6 (by simp [octZ_length]) (octZ_length _ _)
  have q3 : ((recM ⟨h, p, s, g, u⟩).drop 14).take 4 = octZ (u : Nat) 4 := by
    have := take_drop_mid (octZ (numK (h, p)) 4 ++ octZ s 4 ++ octZ g 6) (octZ (u : Nat) 4) [] 14 4 (by simp [octZ_length]) (octZ_length _ _)
    rwa [List.append_nil] at this
  rw [List.drop_zero] at q0
  unfold recG
  rw [q0, q1, q2, q3, getO_octZ4 _ (by rw [e0]; omega) (by rw [e0]; omega), getO_octZ4 s hs.1 hs.2, getO_octZ6 g hg.1 hg.2, getO_octZ4 (u : Nat) (by omega) (by omega), e0]
  simp only [Md.mk.injEq, and_true, Int.toNat_natCast]
  omega
theorem recs_drop (b : List Nat) : ∀ (l : List Md) (i : Nat), i ≤ l.length → (l.flatMap recM ++ b).drop (18 * i) = (l.drop i).flatMap recM ++ b
  | l, 0, _ => by simp
  | [], i + 1, h => by simp at h
  | m :: r, i + 1, h => by
    rw [List.flatMap_cons, List.append_assoc, List.drop_append, List.drop_eq_nil_of_le (by rw [recM_length]; omega), List.nil_append, recM_length, show 18 * (i + 1) - 18 = 18 * i by omega, List.drop_succ_cons]
    exact recs_drop b r i (by simpa using h)
theorem slice_put {l : List Md} {b : List Nat} {i : Nat} {m : Md} (h : l[i]? = some m) : sliceG (putM l ++ b) i = recM m := by
  have hi := (List.getElem?_eq_some_iff.1 h).1
  unfold sliceG putM
  rw [List.append_assoc, List.drop_append, List.drop_eq_nil_of_le (by rw [octZ_length]; omega), List.nil_append, octZ_length, show 4 + 18 * i - 4 = 18 * i by omega, recs_drop b l i (by omega)]
  have e : l.drop i = m :: l.drop (i + 1) := by
    rw [List.drop_eq_getElem_cons hi]
    congr 1
    exact (List.getElem?_eq_some_iff.1 h).2
  rw [e, List.flatMap_cons, List.append_assoc, List.take_append_of_le_length (by rw [recM_length]; omega), List.take_of_length_le (by rw [recM_length]; omega)]
theorem cnt_put {l : List Md} {b : List Nat} (hl : l.length ≤ 4294967295) : cntG (putM l ++ b) = l.length := by
  unfold cntG putM
  rw [List.append_assoc, List.take_append_of_le_length (by rw [octZ_length]; omega), List.take_of_length_le (by rw [octZ_length]; omega), getO_octZ4 _ (by omega) (by omega), Int.toNat_natCast]
theorem rightM_ok {n : Int} {l : List Md} {i : Nat} {m : Md} (h : rightM n l = true) (hi : l[i]? = some m) : okM n m = true := by
  unfold rightM at h
  rw [List.all_eq_true] at h
  have h1 := h i (List.mem_range.2 (List.getElem?_eq_some_iff.1 hi).1)
  rw [stepM_at hi] at h1
  simp only [Bool.and_eq_true] at h1
  exact h1.1.1
/-- There and back. -/
theorem get_put {n : Int} {l : List Md} {b : List Nat} (hr : rightM n l = true) (hn : n ≤ 4294967296) (hl : l.length ≤ 1000) (hu : ∀ m ∈ l, m.u < 4294967296) : getM n (putM l ++ b) = some l := by
  have hc := cnt_put (l := l) (b := b) (by omega)
  have hf : fitsG (putM l ++ b) = true := by
    unfold fitsG
    rw [hc]
    have := putM_length l
    apply decide_eq_true
    rw [List.length_append, this]
    omega
  have hL : listG (putM l ++ b) l.length = l := by
    apply List.ext_getElem?
    intro i
    unfold listG
    rw [List.getElem?_map]
    rcases Nat.lt_or_ge i l.length with hi | hi
    · rw [List.getElem?_range hi, Option.map_some]
      have he : l[i]? = some l[i] := List.getElem?_eq_getElem hi
      have ho := rightM_ok hr he
      unfold okM at ho
      simp only [Bool.and_eq_true, decide_eq_true_eq] at ho
      rw [slice_put he, recG_recM ho.1 (by omega) (by omega) (hu _ (List.getElem_mem _)), he]
    · rw [List.getElem?_eq_none (by simpa using hi), List.getElem?_eq_none hi]
      rfl
  unfold getM
  rw [hc, hL, if_pos ⟨hf, hr⟩]
end Go.Proofs.YtfclhehpbniapaaDoor

/- Contract of entry.take: a mapped page off a reading. -/
namespace Go.Proofs.YtfclhehpbniapaaDoor
open Go.RowKit
set_option linter.unusedVariables false

abbrev mval (m : Md) : Value := .agg #[.int .i64 m.h, .int .i64 m.p, .int .i64 m.s, .int .i64 m.g, .int .u32 (m.u : Nat)]
/-- A page out of octets, as the program has it: a number that no key has makes it the zero key's. -/
def recP (zs : List Nat) : Md := ⟨(ofK (getO (zs.take 4))).1, (ofK (getO (zs.take 4))).2, getO ((zs.drop 4).take 4), getO ((zs.drop 8).take 6), (getO ((zs.drop 14).take 4)).toNat⟩
theorem oct_can {zs : List Nat} {k : Nat} (h : k ≤ zs.length) : (RS.mk zs false).oct k = zs.take k ∧ (RS.mk zs false).off k = ⟨zs.drop k, false⟩ := by
  have hc : (RS.mk zs false).can k = true := RS.can_iff.2 ⟨rfl, h⟩
  exact ⟨if_pos hc, if_pos hc⟩
theorem rnum_take {w : World} {p : Nat} {zs : List Nat} (hR : IsR w p ⟨zs, false⟩) (k : Nat) (hk : k ≤ zs.length) (h8 : k ≤ 8) :
    Calls Tryd.prog 20 #[.pointer (some ⟨p, 0, none⟩), .int .i64 (k : Nat)] w fun e w' => e = .returned (.int .i64 (getO (zs.take k))) ∧ IsR w' p ⟨zs.drop k, false⟩ ∧ Only p w w' := by
  have := rnum_any hR (k : Nat)
  rw [show cl (k : Nat) 8 = k by unfold cl; omega, (oct_can hk).1, (oct_can hk).2] at this
  exact this
theorem Tryd.sizeM11 : (Tryd.prog.info? 51).map (·.size) = some 5 := by kernel_rfl
theorem range_five {w : World} {X : Nat} {C : Array Value} {T : TypeId} {r : Nat × Nat} (h : w.heap[X]? = some (.cells C T r)) : w.rangeAt X 0 C.toList := fun j v hj => by
  rw [cell_of_row w X _ _ _ _ h, Nat.zero_add]
  simpa using hj
theorem there_five {w : World} {X n : Nat} {C : Array Value} {T : TypeId} (h : w.heap[X]? = some (.cells C T (0, 0))) (hn : n ≤ C.size) : w.there X 0 n := fun j hj => by
  rw [Nat.zero_add]
  refine ⟨?_, by simp [World.frozen?, h]⟩
  rw [cell_of_row w X _ _ _ _ h, Array.getElem?_eq_getElem (by omega)]
  rfl
theorem load_mval {w : World} {b : Nat} {m : Md} (h : w.rangeAt b 0 (encM m)) : (loadVar 51 ⟨b, 0, none⟩).run Tryd.prog w = .ok (mval m) w :=
  run_loadVar_mid (P := Tryd.prog) _ b 0 51 (encM m) _ h Tryd.underlying51 rfl Tryd.sizeM11
theorem wrapU32 {u : Nat} (h : u < 4294967296) : IntKind.u32.wrap (u : Int) = (u : Int) := by rw [IntKind.wrap_u32]; omega
theorem nat_of_bd {z : Int} (h : 0 ≤ z ∧ z < 4294967296) : ∃ u : Nat, z = (u : Int) ∧ u < 4294967296 := ⟨z.toNat, by omega, by omega⟩

set_option maxRecDepth 20000 in
set_option maxHeartbeats 2000000 in
theorem take11_any {w : World} {p : Nat} {zs : List Nat} (hR : IsR w p ⟨zs, false⟩) (h18 : 18 ≤ zs.length) :
    Calls Tryd.prog 22 #[.pointer (some ⟨p, 0, none⟩)] w fun e w' => e = .returned (mval (recP zs)) ∧ IsR w' p ⟨zs.drop 18, false⟩ ∧ Only p w w' := by
  have hsm := hR.oct
  simp only at hsm
  have hpl := hR.lt
  obtain ⟨X, hX⟩ : ∃ X, X = w.heap.size := ⟨_, rfl⟩
  obtain ⟨V, hV⟩ : ∃ V, V = w.alloc (.cells #[.int .i64 0, .int .i64 0, .int .i64 0, .int .i64 0, .int .u32 0] 51) := ⟨_, rfl⟩
  have HR0 : Hid (IsR V p ⟨zs, false⟩) := by rw [hV]; exact hR.alloc _
  have HO0 : Hid (Only p w V) := by rw [hV]; exact (Only.refl _ _).alloc _
  have HG0 : Hid (V.heap[X]? = some (.cells #[.int .i64 0, .int .i64 0, .int .i64 0, .int .i64 0, .int .u32 0] 51 (0, 0))) := by rw [hV, hX]; exact heap_alloc_new _ _
  have HXP : Hid (X ≠ p) := by unfold Hid; omega
  have HL : Hid (18 ≤ zs.length) := h18
  have b1 := getO_bd (zs := zs.take 4) (fun z hz => hsm z (List.mem_of_mem_take hz)) (k := 4) (by rw [List.length_take]; omega) (by decide)
  have b4 := getO_bd (zs := (zs.drop 14).take 4) (fun z hz => hsm z (List.mem_of_mem_drop (List.mem_of_mem_take hz))) (k := 4) (by rw [List.length_take, List.length_drop]; omega) (by decide)
  obtain ⟨U, hU, hUb⟩ := nat_of_bd (z := getO ((zs.drop 14).take 4)) b4
  have HM : Hid (recP zs = ⟨(ofK (getO (zs.take 4))).1, (ofK (getO (zs.take 4))).2, getO ((zs.drop 4).take 4), getO ((zs.drop 8).take 6), U⟩) := by unfold Hid recP; rw [hU, Int.toNat_natCast]
  have HN1 : Hid (∀ W, IsR W p ⟨zs, false⟩ → Calls Tryd.prog 20 #[.pointer (some ⟨p, 0, none⟩), .int .i64 4] W fun e w' => e = .returned (.int .i64 (getO (zs.take 4))) ∧ IsR w' p ⟨zs.drop 4, false⟩ ∧ Only p W w') := fun W h => rnum_take h 4 (by omega) (by decide)
  have HN2 : Hid (∀ W, IsR W p ⟨zs.drop 4, false⟩ → Calls Tryd.prog 20 #[.pointer (some ⟨p, 0, none⟩), .int .i64 4] W fun e w' => e = .returned (.int .i64 (getO ((zs.drop 4).take 4))) ∧ IsR w' p ⟨zs.drop 8, false⟩ ∧ Only p W w') := fun W h => by
    have := rnum_take h 4 (by rw [List.length_drop]; omega) (by decide)
    rwa [List.drop_drop] at this
  have HN3 : Hid (∀ W, IsR W p ⟨zs.drop 8, false⟩ → Calls Tryd.prog 20 #[.pointer (some ⟨p, 0, none⟩), .int .i64 6] W fun e w' => e = .returned (.int .i64 (getO ((zs.drop 8).take 6))) ∧ IsR w' p ⟨zs.drop 14, false⟩ ∧ Only p W w') := fun W h => by
    have := rnum_take h 6 (by rw [List.length_drop]; omega) (by decide)
    rwa [List.drop_drop] at this
  have HN4 : Hid (∀ W, IsR W p ⟨zs.drop 14, false⟩ → Calls Tryd.prog 20 #[.pointer (some ⟨p, 0, none⟩), .int .i64 4] W fun e w' => e = .returned (.int .i64 (U : Nat)) ∧ IsR w' p ⟨zs.drop 18, false⟩ ∧ Only p W w') := fun W h => by
    have := rnum_take h 4 (by rw [List.length_drop]; omega) (by decide)
    rw [List.drop_drop, hU] at this
    exact this
  have HKO : Hid (∀ W, Calls Tryd.prog 34 #[.int .i64 (getO (zs.take 4))] W fun e w' => e = .returned (.tuple #[.agg #[.int .i64 (ofK (getO (zs.take 4))).1, .int .i64 (ofK (getO (zs.take 4))).2], .bool (isR (getO (zs.take 4) / 4096, getO (zs.take 4) % 4096))]) ∧ Below W.heap.size W w') := fun W => keyOf_any _ ⟨by omega, by omega⟩ W
  have hwu := wrapU32 hUb
  rw [HM.out]
  generalize isR (getO (zs.take 4) / 4096, getO (zs.take 4) % 4096) = KB at *
  generalize (ofK (getO (zs.take 4))).1 = kh at *
  generalize (ofK (getO (zs.take 4))).2 = kp at *
  generalize getO (zs.take 4) = g1 at *
  generalize getO ((zs.drop 4).take 4) = g2 at *
  generalize getO ((zs.drop 8).take 6) = g3 at *
  clear hR hsm HM hU b4 HL b1 h18
  subst hX
  go_enter Tryd.func22, Tryd.ntmps22
  go_wp2_with fail
  rw [← hV]
  clear hV
  refine (HN1.out V HR0.out).mono ?_
  rintro e w1 ⟨rfl, hr1, hk1⟩
  have HR1 : Hid (IsR w1 p ⟨zs.drop 4, false⟩) := hr1
  have HO1 : Hid (Only p V w1) := hk1
  clear hr1 hk1 HN1
  go_wp2_with fail
  refine (HKO.out w1).mono ?_
  rintro e w2 ⟨rfl, hb2⟩
  have HR2 : Hid (IsR w2 p ⟨zs.drop 4, false⟩) := HR1.out.same hb2
  have HO2 : Hid (Only p V w2) := HO1.out.trans (Only.ofBelow hb2)
  clear hb2 HKO HR1 HO1
  obtain ⟨Y, hY⟩ : ∃ Y, Y = w2.heap.size := ⟨_, rfl⟩
  obtain ⟨W2, hW2⟩ : ∃ W2, W2 = w2.alloc (.cells #[.int .i64 kh, .int .i64 kp] 23) := ⟨_, rfl⟩
  have HG2 : Hid (W2.heap[Y]? = some (.cells #[.int .i64 kh, .int .i64 kp] 23 (0, 0))) := by rw [hW2, hY]; exact heap_alloc_new _ _
  have HR3 : Hid (IsR W2 p ⟨zs.drop 4, false⟩) := by rw [hW2]; exact HR2.out.alloc _
  have HO3 : Hid (Only p V W2) := by rw [hW2]; exact HO2.out.alloc _
  have HYP : Hid (Y ≠ p) := by
    have := HR2.out.lt
    unfold Hid; omega
  go_wp2_with fail
  rw [← hW2]
  try rw [← hY]
  clear hW2 hY HR2 HO2
  refine (HN2.out W2 HR3.out).mono ?_
  rintro e w4 ⟨rfl, hr4, hk4⟩
  have HR4 : Hid (IsR w4 p ⟨zs.drop 8, false⟩) := hr4
  have HO4 : Hid (Only p W2 w4) := hk4
  clear hr4 hk4 HN2
  go_wp2_with fail
  refine (HN3.out w4 HR4.out).mono ?_
  rintro e w5 ⟨rfl, hr5, hk5⟩
  have HR5 : Hid (IsR w5 p ⟨zs.drop 14, false⟩) := hr5
  have HO5 : Hid (Only p W2 w5) := HO4.out.trans hk5
  clear hr5 hk5 HN3 HR4 HO4
  go_wp2_with fail
  refine (HN4.out w5 HR5.out).mono ?_
  rintro e w6 ⟨rfl, hr6, hk6⟩
  have HR6 : Hid (IsR w6 p ⟨zs.drop 18, false⟩) := hr6
  have HO6 : Hid (Only p W2 w6) := HO5.out.trans hk6
  clear hr6 hk6 HN4 HR5 HO5
  have HG6 : Hid (w6.heap[Y]? = some (.cells #[.int .i64 kh, .int .i64 kp] 23 (0, 0))) := (HO6.out.heap (lt_of_heap HG2.out) HYP.out).trans HG2.out
  have HX6 : Hid (w6.heap[w.heap.size]? = some (.cells #[.int .i64 0, .int .i64 0, .int .i64 0, .int .i64 0, .int .u32 0] 51 (0, 0))) := ((HO3.out.trans HO6.out).heap (lt_of_heap HG0.out) HXP.out).trans HG0.out
  have hge : Below w6.heap.size w6 (w6.alloc (.cells #[.int .i64 g2, .int .i64 g3, .int .u32 (U : Nat)] 49)) := (Below.refl _ _).alloc (Nat.le_refl _) _
  have c0 : (w6.alloc (.cells #[.int .i64 g2, .int .i64 g3, .int .u32 (U : Nat)] 49)).cell? ⟨Y, 0, none⟩ = some (.int .i64 kh) := by rw [cell_of_row _ Y _ _ _ _ ((hge.block Y (lt_of_heap HG6.out)).trans HG6.out)]; rfl
  have c1 : (w6.alloc (.cells #[.int .i64 g2, .int .i64 g3, .int .u32 (U : Nat)] 49)).cell? ⟨Y, 1, none⟩ = some (.int .i64 kp) := by rw [cell_of_row _ Y _ _ _ _ ((hge.block Y (lt_of_heap HG6.out)).trans HG6.out)]; rfl
  obtain ⟨c2, c3, c4⟩ := new_three w6 (.int .i64 g2) (.int .i64 g3) (.int .u32 (U : Nat)) 49
  have HX7 : Hid ((w6.alloc (.cells #[.int .i64 g2, .int .i64 g3, .int .u32 (U : Nat)] 49)).heap[w.heap.size]? = some (.cells #[.int .i64 0, .int .i64 0, .int .i64 0, .int .i64 0, .int .u32 0] 51 (0, 0))) := (hge.block w.heap.size (lt_of_heap HX6.out)).trans HX6.out
  have HR7 : Hid (IsR (w6.alloc (.cells #[.int .i64 g2, .int .i64 g3, .int .u32 (U : Nat)] 49)) p ⟨zs.drop 18, false⟩) := HR6.out.same hge
  have HO7 : Hid (Only p w (w6.alloc (.cells #[.int .i64 g2, .int .i64 g3, .int .u32 (U : Nat)] 49))) := ((HO0.out.trans HO3.out).trans HO6.out).trans (Only.ofBelow hge)
  clear hge HR6 HO6 HG6 HX6 HG2 HR3 HO3 HG0 HR0 HO0
  have HTH : Hid ((w6.alloc (.cells #[.int .i64 g2, .int .i64 g3, .int .u32 (U : Nat)] 49)).there w.heap.size 0 (encM ⟨kh, kp, g2, g3, U⟩).toArray.size) := there_five HX7.out (Nat.le_refl _)
  have HSZ : Hid ((Tryd.prog.info? 51).map (·.size) = some (encM ⟨kh, kp, g2, g3, U⟩).toArray.size) := Tryd.sizeM11
  go_wp2_with (with_reducible show wpList _ _ _ (Oper.mk _ (Op.store 51 _ _) _ _ _ _ :: _) _ _; go_must (refine wpList_store_mid rfl 51 _ _ rfl w.heap.size 0 (encM ⟨kh, kp, g2, g3, U⟩).toArray rfl rfl HTH.out HSZ.out (all_oneCell_toArray (encM_ok.one _)) ?_))
  have HLD := load_mval (m := ⟨kh, kp, g2, g3, U⟩) (World.rangeAt_setCells_same _ w.heap.size 0 (encM ⟨kh, kp, g2, g3, U⟩) HTH.out)
  go_wp2
  refine bodyPost_ret (results_cell1 rfl rfl HLD) rfl ⟨rfl, ?_, ?_⟩
  · refine HR7.out.only (q := w.heap.size) ?_ (fun e => HXP.out e.symm) ?_
    · intro i z e
      rw [cell_of_row _ w.heap.size _ _ _ _ HX7.out] at e
      match i, e with
      | 0, e => simp at e
      | 1, e => simp at e
      | 2, e => simp at e
      | 3, e => simp at e
      | 4, e => simp at e
      | i + 5, e => simp at e
    · exact Kept.setCells (K := fun k => k < (w6.alloc (.cells #[.int .i64 g2, .int .i64 g3, .int .u32 (U : Nat)] 49)).heap.size ∧ k ≠ w.heap.size) (Kept.refl _ _) (fun h => h.2 rfl) _ _
  · refine Kept.setCells (K := fun k => k < w.heap.size ∧ k ≠ p) HO7.out (fun h => ?_) _ _
    have := h.1
    exact absurd this (Nat.lt_irrefl _)
end Go.Proofs.YtfclhehpbniapaaDoor

/- The document's Get of a list of mapped pages. (Written by wip/mk_refget11.py.) -/
namespace Go.Proofs.YtfclhehpbniapaaDoor
open Go.RowKit
set_option linter.unusedVariables false

/-- A mapped page in a block of its own. -/
def MdAt (w : World) (b : Nat) (m : Md) : Prop := w.heap[b]? = some (.cells #[.int .i64 m.h, .int .i64 m.p, .int .i64 m.s, .int .i64 m.g, .int .u32 (m.u : Nat)] 51 (0, 0))
theorem MdAt.cells {w : World} {b : Nat} {m : Md} (h : MdAt w b m) : w.cell? ⟨b, 0, none⟩ = some (.int .i64 m.h) ∧ w.cell? ⟨b, 1, none⟩ = some (.int .i64 m.p) ∧ w.cell? ⟨b, 2, none⟩ = some (.int .i64 m.s) ∧ w.cell? ⟨b, 3, none⟩ = some (.int .i64 m.g) ∧ w.cell? ⟨b, 4, none⟩ = some (.int .u32 (m.u : Nat)) := by
  refine ⟨?_, ?_, ?_, ?_, ?_⟩ <;> rw [cell_of_row _ _ _ _ _ _ h] <;> rfl
theorem MdAt.below {w w' : World} {b : Nat} {m : Md} (h : MdAt w b m) (hb : Below w.heap.size w w') : MdAt w' b m := (hb.block b (lt_of_heap h)).trans h
theorem MdAt.frozen {w : World} {b : Nat} {m : Md} (h : MdAt w b m) (i : Nat) : w.frozen? ⟨b, i, none⟩ = false := by
  simp [World.frozen?, show w.heap[b]? = _ from h]
theorem MdAt.set_s {w : World} {b : Nat} {m : Md} (h : MdAt w b m) (v : Int) : MdAt (w.setCell ⟨b, 2, none⟩ (.int .i64 v)) b { m with s := v } := (heap_set_row h 2 _).trans rfl
theorem MdAt.set_g {w : World} {b : Nat} {m : Md} (h : MdAt w b m) (v : Int) : MdAt (w.setCell ⟨b, 3, none⟩ (.int .i64 v)) b { m with g := v } := (heap_set_row h 3 _).trans rfl
theorem MdAt.set_u {w : World} {b : Nat} {m : Md} (h : MdAt w b m) (v : Nat) : MdAt (w.setCell ⟨b, 4, none⟩ (.int .u32 (v : Nat))) b { m with u := v } := (heap_set_row h 4 _).trans rfl
theorem own_below11 {w w' : World} {base n k : Nat} {e : TypeId} {v : Value} {xs : List Value} (h : w.ownsRow base e k v n xs) (hb : Below w.heap.size w w') : w'.ownsRow base e k v n xs :=
  ownsRow_same h fun g hg => by
    rcases h.2 with ⟨rfl, _⟩ | ⟨g', cap, cur, rfl, _, hgg, _⟩
    · simp [Value.ownBlock] at hg
    · simp [Value.ownBlock] at hg
      subst hg
      exact hb.block _ (lt_of_heap hgg)
theorem below_grownK {B k : Nat} {w w' : World} {e : TypeId} {v : Value} {n : Nat} {xs : List Value} (hown : w.ownsRow B e k v n xs) (hg : w.grownBy w' v.ownBlock) (hB : B ≤ w.heap.size) : Below B w w' :=
  (Below.refl B w).grown hg hB fun j hj => (hown.lt j hj).1
theorem Tryd.infoM11 : (Tryd.prog.info? 51).map (fun i => (i.zero, i.size, i.bytes)) = some (some (.agg #[.int .i64 0, .int .i64 0, .int .i64 0, .int .i64 0, .int .u32 0]), 5, 40) := by kernel_rfl
theorem els_one11 {w : World} {m : Nat} {x : Md} {e : TypeId} (h : w.heap.size = m) : Els encM 5 (w.alloc (.cells (encM x).toArray e)) (.slice (some ⟨m, 0, none⟩) 1 1) [x] := by subst h; exact Els.one encM_ok
/-- How many octets an answer has. -/
def ansC : Option (List Md) → Int
  | none => 0
  | some l => 4 + 18 * (l.length : Nat)
theorem slice_len {zs : List Nat} {k i : Nat} (h : 4 + 18 * k ≤ zs.length) (hi : i < k) : (sliceG zs i).length = 18 := by
  rw [sliceG, List.length_take, List.length_drop]; omega
theorem part_small {zs : List Nat} (h : ∀ z ∈ zs, z < 256) (a b : Nat) : ∀ z ∈ (zs.drop a).take b, z < 256 := fun z hz => h z (List.mem_of_mem_drop (List.mem_of_mem_take hz))

end Go.Proofs.YtfclhehpbniapaaDoor

/- Contracts of package entry: placed, Right; the map that says how often each number is there. -/
namespace Go.Proofs.YtfclhehpbniapaaDoor
open Go.RowKit Go.Maps
set_option linter.unusedVariables false

def okE (n s g : Int) : Bool := decide (0 ≤ s ∧ s < n ∧ 1 ≤ g ∧ g ≤ 281474976710655)
theorem placed_any (n s g : Int) (u : Nat) (w : World) :
    Calls Tryd.prog 35 #[.int .i64 n, .agg #[.int .i64 s, .int .i64 g, .int .u32 (u : Nat)]] w fun e w' => e = .returned (.bool (okE n s g)) ∧ Below w.heap.size w w' := by
  by_cases h1 : 0 ≤ s
  · by_cases h2 : s < n
    · by_cases h3 : 1 ≤ g
      · by_cases h4 : g ≤ 281474976710655
        · have HK : Hid (okE n s g = true) := decide_eq_true ⟨h1, h2, h3, h4⟩
          go_enter Tryd.func35, Tryd.ntmps35
          go_wp2
          go_ret
          exact ⟨ret_bool HK.out.symm, (Below.refl _ _).alloc (Nat.le_refl _) _⟩
        · have HK : Hid (okE n s g = false) := decide_eq_false (fun e => h4 e.2.2.2)
          go_enter Tryd.func35, Tryd.ntmps35
          go_wp2
          go_ret
          exact ⟨ret_bool HK.out.symm, (Below.refl _ _).alloc (Nat.le_refl _) _⟩
      · have HK : Hid (okE n s g = false) := decide_eq_false (fun e => h3 e.2.2.1)
        go_enter Tryd.func35, Tryd.ntmps35
        go_wp2
        go_ret
        exact ⟨ret_bool HK.out.symm, (Below.refl _ _).alloc (Nat.le_refl _) _⟩
    · have HK : Hid (okE n s g = false) := decide_eq_false (fun e => h2 e.2.1)
      go_enter Tryd.func35, Tryd.ntmps35
      go_wp2
      go_ret
      exact ⟨ret_bool HK.out.symm, (Below.refl _ _).alloc (Nat.le_refl _) _⟩
  · have HK : Hid (okE n s g = false) := decide_eq_false (fun e => h1 e.1)
    go_enter Tryd.func35, Tryd.ntmps35
    go_wp2
    go_ret
    exact ⟨ret_bool HK.out.symm, (Below.refl _ _).alloc (Nat.le_refl _) _⟩

/-! ### How often each number is there -/
/-- How often each of zs is there. -/
structure CountI (D : DataW Unit) (zs : List Int) : Prop where
  isMap : IsMap D
  times : ∀ x, I64 x → D.atKey (.int .i64 x) (.lit (.int .i64 0)) = .lit (.int .i64 (zs.count x : Nat))
def MapI (w : World) (b : Nat) (zs : List Int) : Prop := ∃ D : DataW Unit, w.ownsMap Tryd.prog 3 (plainElem Tryd.prog 3) b zs.length D ∧ CountI D zs
theorem wfI {c : Int} (h : I64 c) : (Lit.int .i64 c).wf = true := by
  simpa [Lit.wf, IntKind.min, IntKind.max, IntKind.signed, IntKind.bits, I64] using h
theorem lawI : Keyed Tryd.prog 3 := int_keyed Tryd.underlying3
theorem zeroI11 (w : World) : (zeroValue 3).run Tryd.prog w = .ok (.int .i64 0) w := by kernel_rfl
theorem MapI.made (w : World) : MapI (w.alloc (.map #[] 0)) w.heap.size [] := ⟨_, World.ownsMap_made _ _ _ _, isMap_empty, fun x _ => rfl⟩
theorem MapI.lt {w : World} {b : Nat} {zs : List Int} (h : MapI w b zs) : b < w.heap.size := by
  obtain ⟨D, h1, _⟩ := h
  exact h1.lt
theorem MapI.kept {w w' : World} {b : Nat} {zs : List Int} (h : MapI w b zs) (hb : Below w.heap.size w w') : MapI w' b zs := by
  obtain ⟨D, h1, h2⟩ := h
  exact ⟨D, h1.kept (row := none) ⟨hb.os, hb.tape, hb.output, hb.size, fun i hi _ => hb.block i hi⟩ (by simp), h2⟩
theorem MapI.look {w : World} {b : Nat} {zs : List Int} (h : MapI w b zs) {x : Int} (hx : I64 x) :
    (Instr.lookup 68 (.map (some b)) (.int .i64 x) false).run Tryd.prog w = .ok (.int .i64 (zs.count x : Nat)) w := by
  obtain ⟨D, h1, h2⟩ := h
  obtain ⟨c, hr, hat, _⟩ := h1.lookup_int lawI Tryd.underlying68 Tryd.underlying3 (zeroI11 _) (keyOf_int_mk Tryd.underlying3 (wfI hx))
  rw [h2.times x hx] at hat
  simp only [DataW.lit.injEq, Lit.int.injEq, true_and] at hat
  rw [hr, hat]
theorem MapI.inc {w : World} {b : Nat} {zs : List Int} (h : MapI w b zs) {x : Int} (hx : I64 x) (hl : zs.length < 1000000) :
    ∃ w', (Instr.mapUpdate 68 (.map (some b)) (.int .i64 x) (.int .i64 (((zs.count x : Nat) : Int) + 1))).run Tryd.prog w = .ok () w' ∧ MapI w' b (zs ++ [x]) ∧ w.grownBy w' (some b) := by
  obtain ⟨D, h1, h2⟩ := h
  have hc : zs.count x ≤ zs.length := List.count_le_length
  obtain ⟨w', hr, ho, hg⟩ := h1.update lawI Tryd.underlying68 (by unfold maxLen; omega) (keyOf_int_mk Tryd.underlying3 (wfI hx)) (plainElem_int (H := Unit) Tryd.underlying3 (a := ((zs.count x : Nat) : Int) + 1) (wfI ⟨by omega, by omega⟩))
  have h3 : CountI (D.put (.int .i64 x) (.lit (.int .i64 (((zs.count x : Nat) : Int) + 1)))) (zs ++ [x]) := by
    refine ⟨h2.isMap.put _ _, fun y hy => ?_⟩
    by_cases e : y = x
    · subst e
      rw [atKey_put_same h2.isMap (by simp [WideAt.IsKeyLit])]
      simp
    · rw [atKey_put_other (fun e' => e (by cases e'; rfl)), h2.times y hy, List.count_append, List.count_cons]
      have : (x == y) = false := by simpa using fun e' => e e'.symm
      simp [this]
  exact ⟨w', hr, ⟨_, by rw [List.length_append]; exact ho, h3⟩, hg⟩

/-! ### Right -/
/-- The number of the last one: none's is 0. -/
def lastN (l : List Md) (k : Nat) : Int := match k with
  | 0 => 0
  | i + 1 => match l[i]? with
    | some q => numK q.k
    | none => 0
theorem lastN_snoc {l : List Md} {k : Nat} {m : Md} (h : l[k]? = some m) : lastN l (k + 1) = numK m.k := by
  show (match l[k]? with | some q => numK q.k | none => 0) = _
  rw [h]
theorem numK_right {k : Ky} (h : isR k = true) : numK k = 4096 * k.1 + k.2 := by unfold numK; rw [if_pos h]
theorem numK_wrong {k : Ky} (h : isR k = false) : numK k = 0 := by unfold numK; rw [if_neg (by rw [h]; decide)]
theorem numK_pos {k : Ky} (h : isR k = true) : 4096 ≤ numK k := by
  rw [numK_right h]
  have := isR_iff.1 h
  omega
theorem numK_nat (k : Ky) : ∃ N : Nat, numK k = (N : Int) ∧ N ≤ 266239 := by
  cases h : isR k
  · exact ⟨0, numK_wrong h, by decide⟩
  · rw [numK_right h]
    have := isR_iff.1 h
    exact ⟨(4096 * k.1 + k.2).toNat, by omega, by omega⟩
theorem ltK_num {a b : Ky} (ha : isR a = true) (hb : isR b = true) : ltK a b = decide (numK a < numK b) := by
  rw [numK_right ha, numK_right hb]
  have h1 := isR_iff.1 ha
  have h2 := isR_iff.1 hb
  unfold ltK
  congr 1
  apply propext
  omega
theorem stepM_okM {n : Int} {l : List Md} {j : Nat} {q : Md} (hj : l[j]? = some q) (h : stepM n l j = true) : isR q.k = true := by
  rw [stepM_at hj] at h
  simp only [Bool.and_eq_true, okM] at h
  exact h.1.1.1
/-- What one round asks. -/
theorem stepM_num {n : Int} {l : List Md} {k : Nat} {m : Md} (hk : l[k]? = some m) (hp : ∀ j, j < k → stepM n l j = true) :
    stepM n l k = (decide (lastN l k < numK m.k) && okE n m.s m.g && decide (((l.take k).map Md.s).count m.s = 0)) := by
  rw [stepM_at hk]
  have e3 : freshM (l.take k) m = decide (((l.take k).map Md.s).count m.s = 0) := by
    unfold freshM
    rw [eq_comm, Bool.eq_iff_iff, decide_eq_true_iff, List.all_eq_true, List.count_eq_zero]
    constructor
    · intro h q hq
      simp only [decide_eq_true_eq]
      exact fun e => h (by rw [← e]; exact List.mem_map_of_mem hq)
    · intro h hm
      obtain ⟨q, hq, e⟩ := List.mem_map.1 hm
      have := h q hq
      simp only [decide_eq_true_eq] at this
      exact this e
  have e1 : okM n m = (isR m.k && okE n m.s m.g) := rfl
  rw [e3, e1]
  cases hr : isR m.k
  · have e4 : decide (lastN l k < numK m.k) = false := by
      rw [numK_wrong hr, decide_eq_false_iff_not]
      have : 0 ≤ lastN l k := by
        unfold lastN
        split
        · omega
        · split
          · rename_i q _
            obtain ⟨N, hN, _⟩ := numK_nat q.k
            omega
          · omega
      omega
    rw [e4]
    simp
  · have e4 : aheadM l k m = decide (lastN l k < numK m.k) := by
      unfold aheadM lastN
      match k, hk, hp with
      | 0, _, _ =>
        have := numK_pos hr
        rw [eq_comm, decide_eq_true_iff]
        show (0 : Int) < numK m.k
        omega
      | i + 1, hk, hp =>
        have hil : i < l.length := by have := (List.getElem?_eq_some_iff.1 hk).1; omega
        have hq : l[i]? = some l[i] := List.getElem?_eq_getElem hil
        simp only [hq]
        exact ltK_num (stepM_okM hq (hp i (by omega))) hr
    rw [e4]
    simp [Bool.and_comm, Bool.and_assoc]
theorem map_snoc11 {l : List Md} {k : Nat} {m : Md} (h : l[k]? = some m) : (l.take (k + 1)).map Md.s = (l.take k).map Md.s ++ [m.s] := by
  rw [take_snocA h, List.map_append]
  rfl

set_option maxRecDepth 20000 in
set_option maxHeartbeats 1600000 in
theorem right11_any (w : World) (x : Value) (l : List Md) (n : Int) (hx : Els encM 5 w x l) (hm : ∀ m ∈ l, MdI m) (hl0 : l.length ≤ 1000) :
    Calls Tryd.prog 23 #[.int .i64 n, x] w fun e w' => e = .returned (.bool (rightM n l)) ∧ Below w.heap.size w w' := by
  obtain ⟨a, ca, rfl⟩ := hx.shape
  obtain ⟨L, hn⟩ : ∃ L, L = l.length := ⟨_, rfl⟩
  rw [← hn] at hx hl0 ⊢
  have HN : Hid (L = l.length) := hn
  have HX : Hid (Els encM 5 w (.slice a L ca) l) := hx
  have HI : Hid (∀ m ∈ l, MdI m) := hm
  clear hn hx hm
  have hmm := @run_makeMap Tryd.prog
  go_enter Tryd.func23, Tryd.ntmps23
  go_wp2_with fail
  clear hmm
  have HM0 : Hid (MapI (w.alloc (.map #[] 0)) w.heap.size []) := MapI.made w
  have HB0 : Hid (Below w.heap.size w (w.alloc (.map #[] 0))) := (Below.refl _ _).alloc (Nat.le_refl _) _
  go_loopw [6, 13] (fun q i wr => ∃ k : Nat, ∃ N : Nat, i = .int .i64 (k : Nat) ∧ q = .int .i64 (N : Nat) ∧ k ≤ L ∧ N ≤ 266239 ∧ Hid (lastN l k = (N : Int)) ∧ Hid (∀ j, j < k → stepM n l j = true) ∧ Hid (MapI wr w.heap.size ((l.take k).map Md.s)) ∧ Hid (Below w.heap.size w wr)) (fun _ i _ => L - (intOf i).toNat)
  case atStart => exact ⟨0, 0, rfl, rfl, Nat.zero_le _, Nat.zero_le _, rfl, fun j hj => absurd hj (by omega), HM0.out, HB0.out⟩
  case round =>
    obtain ⟨k, N, rfl, rfl, hk, hN, HL, HT, HM, HB⟩ := hrel
    clear HM0 HB0
    by_cases hlt : k < L
    · obtain ⟨b, off, rfl, hb, hc⟩ := (HX.out.kept HB.out).md (by omega)
      obtain ⟨mh, mp, ms, mg, mu, hkk⟩ := md_at (xs := l) (j := k) (by rw [← HN.out]; exact hlt)
      obtain ⟨c0, c1, c2, c3, c4⟩ := hc k _ hkk
      have HST : Hid (stepM n l k = (decide ((N : Int) < numK (mh, mp)) && okE n ms mg && decide (((l.take k).map Md.s).count ms = 0))) := by
        have := stepM_num hkk HT.out
        rw [HL.out] at this
        exact this
      have HLL : Hid (lastN l (k + 1) = numK (mh, mp)) := lastN_snoc hkk
      have HSN : Hid ((l.take (k + 1)).map Md.s = (l.take k).map Md.s ++ [ms]) := map_snoc11 hkk
      have HIS : Hid (I64 ms) := (HI.out _ (List.mem_of_getElem? hkk)).2.2.1
      have HNO : Hid (stepM n l k = false → rightM n l = false) := fun h => rightM_no (by rw [← HN.out]; exact hlt) h
      have HC : Hid (((l.take k).map Md.s).length ≤ 1000) := by unfold Hid; rw [List.length_map, List.length_take]; omega
      obtain ⟨N2, hN2, hN3⟩ := numK_nat (mh, mp)
      have HNB : Hid (∀ W, Calls Tryd.prog 13 #[.agg #[.int .i64 mh, .int .i64 mp]] W fun e w' => e = .returned (.int .i64 (N2 : Nat)) ∧ Below W.heap.size W w') := fun W => by rw [← hN2]; exact number_any mh mp W
      rw [hN2] at HST HLL
      clear hN2 hkk hc hb HL
      obtain ⟨W0, hW⟩ : ∃ W0, W0 = wr.alloc (.cells #[.int .i64 mh, .int .i64 mp, .int .i64 ms, .int .i64 mg, .int .u32 (mu : Nat)] 51) := ⟨_, rfl⟩
      obtain ⟨X, hXX⟩ : ∃ X, X = wr.heap.size := ⟨_, rfl⟩
      have hn5 := new_five wr (.int .i64 mh) (.int .i64 mp) (.int .i64 ms) (.int .i64 mg) (.int .u32 (mu : Nat)) 51
      rw [← hW, ← hXX] at hn5
      obtain ⟨d0, d1, d2, d3, d4⟩ := hn5
      have HB0 : Hid (Below w.heap.size w W0) := by rw [hW]; exact HB.out.alloc HB.out.size _
      have HM0 : Hid (MapI W0 w.heap.size ((l.take k).map Md.s)) := by rw [hW]; exact HM.out.kept ((Below.refl _ _).alloc (Nat.le_refl _) _)
      generalize hzs : (l.take k).map Md.s = zs at *
      clear hzs
      go_wp2_with fail
      rw [← hW]
      try rw [← hXX]
      have HDK : Hid (∀ W, Below W0.heap.size W0 W → W.cell? ⟨X, 2, none⟩ = some (.int .i64 ms) ∧ W.cell? ⟨X, 3, none⟩ = some (.int .i64 mg) ∧ W.cell? ⟨X, 4, none⟩ = some (.int .u32 (mu : Nat))) := fun W hW => ⟨(hW.cell (block_lt_of_cell d2)).trans d2, (hW.cell (block_lt_of_cell d3)).trans d3, (hW.cell (block_lt_of_cell d4)).trans d4⟩
      clear hW hXX HB HM
      refine (HNB.out _).mono ?_
      rintro e w1 ⟨rfl, hB1⟩
      obtain ⟨f2, f3, f4⟩ := HDK.out w1 hB1
      have HB1 : Hid (Below w.heap.size w w1) := HB0.out.trans (hB1.mono HB0.out.size)
      have HM1 : Hid (MapI w1 w.heap.size zs) := HM0.out.kept hB1
      have HBX : Hid (Below W0.heap.size W0 w1) := hB1
      clear hB1 HNB d0 d1 d2 d3 d4 c0 c1 c2 c3 c4 HB0 HM0
      by_cases p1 : N2 ≤ N
      · have HF : Hid (rightM n l = false) := HNO.out (by rw [HST.out, decide_eq_false (show ¬ (N : Int) < (N2 : Int) by omega)]; rfl)
        clear HST HNO HDK HLL HSN
        go_wp2_with fail
        go_ret
        exact ⟨ret_bool HF.out.symm, HB1.out⟩
      have HP1 : Hid (decide ((N : Int) < (N2 : Int)) = true) := decide_eq_true (show (N : Int) < (N2 : Int) by omega)
      have HPL : Hid (∀ W, Calls Tryd.prog 35 #[.int .i64 n, .agg #[.int .i64 ms, .int .i64 mg, .int .u32 (mu : Nat)]] W fun e w' => e = .returned (.bool (okE n ms mg)) ∧ Below W.heap.size W w') := fun W => placed_any n ms mg mu W
      generalize okE n ms mg = OE at *
      cases OE
      · have HF : Hid (rightM n l = false) := HNO.out (by rw [HST.out]; simp)
        clear HST HNO HLL HSN
        go_wp2_with fail
        refine (HPL.out _).mono ?_
        rintro e w2 ⟨rfl, hB2⟩
        have HB2 : Hid (Below w.heap.size w w2) := HB1.out.trans (hB2.mono HB1.out.size)
        clear hB2 HPL f2 f3 f4 HDK
        go_wp2_with fail
        go_ret
        exact ⟨ret_bool HF.out.symm, HB2.out⟩
      · go_wp2_with fail
        refine (HPL.out _).mono ?_
        rintro e w2 ⟨rfl, hB2⟩
        have HB2 : Hid (Below w.heap.size w w2) := HB1.out.trans (hB2.mono HB1.out.size)
        have HM2 : Hid (MapI w2 w.heap.size zs) := HM1.out.kept hB2
        have g2 := (HDK.out w2 (HBX.out.trans (hB2.mono HBX.out.size))).1
        clear hB2 HPL f2 f3 f4 HDK HM1 HB1 HBX
        have hlk := HM2.out.look HIS.out
        obtain ⟨w3, hup, hm3, hg3⟩ := HM2.out.inc HIS.out (by have := HC.out; omega)
        have hcl : zs.count ms ≤ 1000 := Nat.le_trans List.count_le_length HC.out
        have HM3 : Hid (MapI w3 w.heap.size ((l.take (k + 1)).map Md.s)) := by rw [HSN.out]; exact hm3
        have HB3 : Hid (Below w.heap.size w w3) := HB2.out.grown hg3 HB2.out.size (fun j hj => by cases hj; exact Nat.le_refl _)
        clear hm3 hg3 HM2 HSN HC HIS
        by_cases p2 : 0 < zs.count ms
        · have HF : Hid (rightM n l = false) := HNO.out (by rw [HST.out, decide_eq_false (show ¬ zs.count ms = 0 by omega)]; simp)
          generalize zs.count ms = c at *
          clear HST HNO HLL hup
          go_wp2_with fail
          go_ret
          exact ⟨ret_bool HF.out.symm, HB2.out⟩
        · have HS : Hid (stepM n l k = true) := by unfold Hid; rw [HST.out, HP1.out, decide_eq_true (show zs.count ms = 0 by omega)]; rfl
          have HT2 : Hid (∀ j, j < k + 1 → stepM n l j = true) := fun j hj => by
            by_cases e : j = k
            · subst e; exact HS.out
            · exact HT.out j (by omega)
          have hz : zs.count ms = 0 := by omega
          rw [hz] at hlk hup
          have e01 : (((0 : Nat) : Int) + 1) = 1 := rfl
          rw [e01] at hup
          clear e01
          clear HST HNO HS HP1 hz p2 hcl
          go_wp2_with fail
          go_roundw
          case rel => exact ⟨k + 1, N2, by go_num, rfl, by omega, hN3, HLL.out, HT2.out, HM3.out, HB3.out⟩
          case measure => simp [intOf]; omega
    · have HE : Hid (rightM n l = true) := rightM_yes (fun j hj => HT.out j (by have := HN.out; omega))
      go_wp2
      go_ret
      exact ⟨ret_bool HE.out.symm, HB.out⟩
end Go.Proofs.YtfclhehpbniapaaDoor

/- Contract of entry.Get: the right list at the beginning of octets. -/
namespace Go.Proofs.YtfclhehpbniapaaDoor
open Go.RowKit
set_option linter.unusedVariables false

/-! ### The two lists -/
def listP (zs : List Nat) (k : Nat) : List Md := (List.range k).map fun i => recP (zs.drop (4 + 18 * i))
theorem listP_length (zs : List Nat) (k : Nat) : (listP zs k).length = k := by simp [listP]
theorem listP_at {zs : List Nat} {k i : Nat} (h : i < k) : (listP zs k)[i]? = some (recP (zs.drop (4 + 18 * i))) := by
  unfold listP
  rw [List.getElem?_map, List.getElem?_range h]
  rfl
theorem listG_at {zs : List Nat} {k i : Nat} (h : i < k) : (listG zs k)[i]? = some (recG (sliceG zs i)) := by
  unfold listG
  rw [List.getElem?_map, List.getElem?_range h]
  rfl
theorem recG_parts (x : List Nat) : recG (x.take 18) = ⟨getO (x.take 4) / 4096, getO (x.take 4) % 4096, getO ((x.drop 4).take 4), getO ((x.drop 8).take 6), (getO ((x.drop 14).take 4)).toNat⟩ := by
  unfold recG
  simp [List.take_take, List.drop_take]
/-- They are one, or neither's key is right. -/
def Alike (a b : Md) : Prop := a = b ∨ (isR a.k = false ∧ isR b.k = false)
theorem Alike.symm {a b : Md} (h : Alike a b) : Alike b a := h.elim (fun e => .inl e.symm) (fun e => .inr ⟨e.2, e.1⟩)
theorem rec_alike (zs : List Nat) (i : Nat) : Alike (recP (zs.drop (4 + 18 * i))) (recG (sliceG zs i)) := by
  unfold sliceG
  generalize zs.drop (4 + 18 * i) = x
  rw [recG_parts]
  unfold recP ofK
  cases h : isR (getO (x.take 4) / 4096, getO (x.take 4) % 4096)
  · right
    refine ⟨?_, h⟩
    simp [Md.k, isR]
  · left
    simp
theorem right_alike {n : Int} {l1 l2 : List Md} (hl : l1.length = l2.length) (h : ∀ (i : Nat) a b, l1[i]? = some a → l2[i]? = some b → Alike a b) (hr : rightM n l1 = true) : l1 = l2 := by
  apply List.ext_getElem?
  intro i
  rcases Nat.lt_or_ge i l1.length with hi | hi
  · have h1 : l1[i]? = some l1[i] := List.getElem?_eq_getElem hi
    have h2 : l2[i]? = some (l2[i]'(by omega)) := List.getElem?_eq_getElem (by omega)
    rcases h i _ _ h1 h2 with e | ⟨e, _⟩
    · rw [h1, h2, e]
    · have := rightM_ok hr h1
      unfold okM at this
      rw [e] at this
      simp at this
  · rw [List.getElem?_eq_none hi, List.getElem?_eq_none (by omega)]
theorem right_same {n : Int} {l1 l2 : List Md} (hl : l1.length = l2.length) (h : ∀ (i : Nat) a b, l1[i]? = some a → l2[i]? = some b → Alike a b) : rightM n l1 = rightM n l2 := by
  cases h1 : rightM n l1 <;> cases h2 : rightM n l2
  · rfl
  · have := right_alike hl.symm (fun i a b ha hb => (h i b a hb ha).symm) h2
    rw [this, h1] at h2
    cases h2
  · have := right_alike hl h h1
    rw [← this, h1] at h2
    cases h2
  · rfl
theorem list_alike (zs : List Nat) (k : Nat) : ∀ (i : Nat) a b, (listP zs k)[i]? = some a → (listG zs k)[i]? = some b → Alike a b := by
  intro i a b ha hb
  have hi : i < k := by have := (List.getElem?_eq_some_iff.1 ha).1; rwa [listP_length] at this
  rw [listP_at hi, Option.some.injEq] at ha
  rw [listG_at hi, Option.some.injEq] at hb
  subst ha hb
  exact rec_alike zs i
theorem listP_right (n : Int) (zs : List Nat) (k : Nat) : rightM n (listP zs k) = rightM n (listG zs k) := right_same (by rw [listP_length, listG_length]) (list_alike zs k)
theorem listP_same {n : Int} {zs : List Nat} {k : Nat} (h : rightM n (listP zs k) = true) : listP zs k = listG zs k := right_alike (by rw [listP_length, listG_length]) (list_alike zs k) h
theorem recP_fit {zs : List Nat} (h : ∀ z ∈ zs, z < 256) (hl : 18 ≤ zs.length) : MdI (recP zs) := by
  have b1 := getO_bd (zs := zs.take 4) (fun z hz => h z (List.mem_of_mem_take hz)) (k := 4) (by rw [List.length_take]; omega) (by decide)
  have b2 := getO_bd (zs := (zs.drop 4).take 4) (fun z hz => h z (List.mem_of_mem_drop (List.mem_of_mem_take hz))) (k := 4) (by rw [List.length_take, List.length_drop]; omega) (by decide)
  have b3 := getO_bd (zs := (zs.drop 8).take 6) (fun z hz => h z (List.mem_of_mem_drop (List.mem_of_mem_take hz))) (k := 6) (by rw [List.length_take, List.length_drop]; omega) (by decide)
  have b4 := getO_bd (zs := (zs.drop 14).take 4) (fun z hz => h z (List.mem_of_mem_drop (List.mem_of_mem_take hz))) (k := 4) (by rw [List.length_take, List.length_drop]; omega) (by decide)
  have hk : ∀ k, 0 ≤ (ofK k).1 ∧ (ofK k).1 ≤ 64 ∧ 0 ≤ (ofK k).2 ∧ (ofK k).2 ≤ 4095 := fun k => by
    unfold ofK
    split
    · rename_i hh
      have := isR_iff.1 hh
      omega
    · simp
  have k1 := hk (getO (zs.take 4))
  unfold recP MdI I64
  simp only
  omega
theorem listP_fit {zs : List Nat} (h : ∀ z ∈ zs, z < 256) {k : Nat} (hk : 4 + 18 * k ≤ zs.length) : ∀ m ∈ listP zs k, MdI m := by
  intro m hm
  obtain ⟨i, hi⟩ := List.getElem?_of_mem hm
  have hik : i < k := by have := (List.getElem?_eq_some_iff.1 hi).1; rwa [listP_length] at this
  rw [listP_at hik, Option.some.injEq] at hi
  subst hi
  exact recP_fit (fun z hz => h z (List.mem_of_mem_drop hz)) (by rw [List.length_drop]; omega)

/-! ### The row that is filled -/
structure RowP (w : World) (G n : Nat) (xs : List Md) (k : Nat) : Prop where
  there : w.there G 0 (n * 5)
  no : NoOct w G
  got : ∀ j y, j < k → xs[j]? = some y → w.rangeAt G (j * 5) (encM y)
theorem RowP.lt {w : World} {G n : Nat} {xs : List Md} {k : Nat} (h : RowP w G n xs k) (hn : 0 < n) : G < w.heap.size := by
  have h0 := (h.there 0 (by omega)).1
  obtain ⟨u, hu⟩ := Option.isSome_iff_exists.1 h0
  exact cell_lt hu
theorem RowP.only {w w' : World} {G n p : Nat} {xs : List Md} {k : Nat} (h : RowP w G n xs k) (ho : Only p w w') (hG : G < w.heap.size) (hp : G ≠ p) : RowP w' G n xs k := by
  have hc : ∀ i, w'.cell? ⟨G, i, none⟩ = w.cell? ⟨G, i, none⟩ := fun i => ho.cell (q := ⟨G, i, none⟩) hG hp
  have hf : ∀ i, w'.frozen? ⟨G, i, none⟩ = w.frozen? ⟨G, i, none⟩ := fun i => World.frozen?_of_block (w := w) (ho.heap hG hp)
  refine ⟨fun j hj => ?_, fun i z e => h.no i z (by rw [← hc]; exact e), fun j y hj hy i v hv => ?_⟩
  · rw [hc, hf]
    exact h.there j hj
  · rw [hc]
    exact h.got j y hj hy i v hv
theorem noOct_setCells {G : Nat} : ∀ (vs : List Value) (o : Nat) (w : World), NoOct w G → w.there G o vs.length → (∀ v ∈ vs, ∀ z, v ≠ .int .u8 z) → NoOct (w.setCells G o vs) G := by
  intro vs o w hn ht hv i z e
  by_cases hi : o ≤ i ∧ i < o + vs.length
  · obtain ⟨j, rfl⟩ : ∃ j, i = o + j := ⟨i - o, by omega⟩
    have hj : j < vs.length := by omega
    have h1 := World.rangeAt_setCells_same w G o vs ht j vs[j] (List.getElem?_eq_getElem hj)
    rw [e, Option.some.injEq] at h1
    exact hv _ (List.getElem_mem hj) z h1.symm
  · have h1 := World.cell?_setCells_out G vs o w ⟨G, i, none⟩ (fun _ _ => by show i < o ∨ o + vs.length ≤ i; omega)
    rw [h1] at e
    exact hn i z e
theorem encM_no8 (m : Md) : ∀ v ∈ encM m, ∀ z, v ≠ .int .u8 z := by
  intro v hv z
  simp only [encM, List.mem_cons, List.not_mem_nil, or_false] at hv
  rcases hv with rfl | rfl | rfl | rfl | rfl <;> simp
theorem there_part {w : World} {G m o n : Nat} (h : w.there G 0 m) (hn : o + n ≤ m) : w.there G o n := fun j hj => by
  have := h (o + j) (by omega)
  rwa [Nat.zero_add] at this
theorem RowP.set {w : World} {G n : Nat} {xs : List Md} {k : Nat} (h : RowP w G n xs k) (hk : k < n) {y : Md} (hy : xs[k]? = some y) : RowP (w.setCells G (k * 5) (encM y)) G n xs (k + 1) := by
  have ht : w.there G (k * 5) (encM y).length := there_part h.there (by rw [encM_ok.len]; omega)
  refine ⟨World.there_setCells h.there G _ _, noOct_setCells _ _ _ h.no ht (encM_no8 y), fun j z hj hz => ?_⟩
  by_cases e : j = k
  · subst e
    rw [hy, Option.some.injEq] at hz
    subst hz
    exact World.rangeAt_setCells_same w G _ _ ht
  · exact World.rangeAt_setCells_apart (h.got j z (by omega) hz) G _ _ (.inr (.inl (by rw [encM_ok.len]; omega)))
theorem RowP.els {w : World} {G n : Nat} {xs : List Md} (h : RowP w G n xs n) (hG : G < w.heap.size) (hn : xs.length = n) (hm : n ≤ maxLen) : Els encM 5 w (.slice (some ⟨G, 0, none⟩) n n) xs := by
  subst hn
  refine ⟨hm, _, _, rfl, Nat.le_refl _, hm, .inr ⟨_, rfl, .inr ⟨G, 0, rfl, hG, fun j y hj i u hu => ?_⟩⟩⟩
  have := h.got j y (List.getElem?_eq_some_iff.1 hj).1 hj i u hu
  rwa [Nat.zero_add]
theorem made_row (w : World) (n : Nat) (xs : List Md) : RowP (w.alloc (.cells (madeCells #[.int .i64 0, .int .i64 0, .int .i64 0, .int .i64 0, .int .u32 0] (n * 5)) 51)) w.heap.size n xs 0 := by
  have hh := heap_alloc_new w (.cells (madeCells #[.int .i64 0, .int .i64 0, .int .i64 0, .int .i64 0, .int .u32 0] (n * 5)) 51)
  refine ⟨there_five hh (by rw [size_madeCells]; exact Nat.le_refl _), fun i z e => ?_, fun j y hj => absurd hj (by omega)⟩
  rw [cell_of_row _ _ _ _ _ _ hh] at e
  have hi : i < n * 5 := by
    have := (Array.getElem?_eq_some_iff.1 e).1
    rwa [size_madeCells] at this
  simp only [madeCells] at e
  have h5 : i % 5 = 0 ∨ i % 5 = 1 ∨ i % 5 = 2 ∨ i % 5 = 3 ∨ i % 5 = 4 := by omega
  rcases h5 with q | q | q | q | q <;> simp [hi, q] at e
/-- 'make([]api.Mapped, n)'. -/
theorem wpList_make_mds (w : World) {ops : Array Oper} {rest : List Oper} {o : Oper} {a : Act} {Q : Exit → Act → World → Prop} (hg : o.guard = none) (l c : Operand) (hop : o.op = Op.makeSlice 32 l c) (xs : List Md)
    (n : Nat) (hl : a.eval l = .int .i64 (n : Nat)) (hc : a.eval c = .int .i64 (n : Nat)) (hn : n ≤ 100000)
    (hK : ∀ w', Hid (RowP w' w.heap.size n xs 0) → Hid (Below w.heap.size w w') → Hid (w.heap.size < w'.heap.size) → wpList Tryd.prog ops Q rest (a.put o.dst (.slice (some ⟨w.heap.size, 0, none⟩) n n)) w') : wpList Tryd.prog ops Q (o :: rest) a w := by
  obtain ⟨i0, hi, hz0, hz1, hz2⟩ := info_parts Tryd.infoM11
  refine wpList_plain hg fun K hK' => ?_
  have hr := run_make (P := Tryd.prog) w 32 51 i0 _ Tryd.underlying32 hi hz0 .i64 .i64 (n : Nat) (n : Nat) (by omega) (Int.le_refl _) (by rw [hz2]; omega) (by omega)
  simp only [Int.toNat_natCast, hz1] at hr
  unfold Oper.wp
  simp [execOp, hop, hl, hc, hr, Result.andThen]
  exact hK' _ _ (hK _ (made_row w n xs) ((Below.refl _ _).alloc (Nat.le_refl _) _) (by simp [Hid]))

/-! ### Get -/
theorem getM_none {n : Int} {zs : List Nat} (h : fitsG zs = false) : getM n zs = none := by
  unfold getM
  rw [if_neg]
  rintro ⟨h2, _⟩
  rw [h] at h2
  cases h2
theorem getM_right {n : Int} {zs : List Nat} (hf : fitsG zs = true) : getM n zs = if rightM n (listP zs (cntG zs)) = true then some (listP zs (cntG zs)) else none := by
  unfold getM
  rw [← listP_right]
  by_cases h : rightM n (listP zs (cntG zs)) = true
  · rw [if_pos ⟨hf, h⟩, if_pos h, listP_same h]
  · rw [if_neg (fun e => h e.2), if_neg h]
theorem recP_take {y : List Nat} {m : Nat} (h : 18 ≤ m) : recP (y.take m) = recP y := by
  unfold recP
  simp only [List.take_take, List.drop_take]
  rw [Nat.min_eq_left (by omega), Nat.min_eq_left (by omega), Nat.min_eq_left (by omega), Nat.min_eq_left (by omega)]
theorem quo18 {L : Nat} (h : 4 ≤ L) : Int.tdiv ((L : Int) - 4) 18 = (((L - 4) / 18 : Nat) : Int) := by
  rw [Int.tdiv_eq_ediv_of_nonneg (by omega)]
  omega
theorem tail_drop {zs : List Nat} {S k : Nat} : ((zs.take S).drop 4).drop (18 * k) = (zs.drop (4 + 18 * k)).take (S - (4 + 18 * k)) := by
  rw [List.drop_drop, List.drop_take]

set_option maxRecDepth 20000 in
set_option maxHeartbeats 4000000 in
theorem get11_none (w : World) (n : Int) (v : Value) (zs : List Nat) (hv : Octs w v zs) (h4 : zs.length < 4) :
    Calls Tryd.prog 9 #[.int .i64 n, v] w fun e w' => e = .returned (.tuple #[.slice none 0 0, .int .i64 0]) ∧ Below w.heap.size w w' := by
  obtain ⟨a, ca, rfl⟩ := hv.shape
  have hcap : zs.length ≤ ca ∧ ca ≤ 9223372036854775807 := by
    obtain ⟨_, _, a', c', e, h3, h4, _⟩ := hv
    simp only [Value.slice.injEq] at e
    unfold maxLen at h4
    omega
  obtain ⟨L, hL⟩ : ∃ L, L = zs.length := ⟨_, rfl⟩
  rw [← hL] at hv h4 hcap ⊢
  obtain ⟨hc1, hc2⟩ := hcap
  have HL : Hid (L = zs.length) := hL
  have HV : Hid (Octs w (.slice a L ca) zs) := hv
  have HO : Hid ((RS.mk zs false).oct 4 = [] ∧ (RS.mk zs false).off 4 = .failed) := by
    have hc : ¬ (RS.mk zs false).can 4 = true := fun e => by
      have := (RS.can_iff.1 e).2
      simp only at this
      omega
    exact ⟨if_neg hc, if_neg hc⟩
  clear hL hv
  go_enter Tryd.func9, Tryd.ntmps9
  go_wp2_with fail
  refine (read_octs _ zs _ HV.out (by have := HL.out; omega)).mono ?_
  rintro e w1 ⟨p, rfl, hr1, hb1, hp1⟩
  have HR1 : Hid (IsR w1 p ⟨zs, false⟩) := hr1
  have HB1 : Hid (Below w.heap.size w w1) := hb1
  have HP : Hid (w.heap.size ≤ p) := hp1
  clear hr1 hb1 hp1
  go_wp2_with fail
  refine (rnum_any HR1.out 4).mono ?_
  rintro e w2 ⟨rfl, hr2, hk2⟩
  rw [show cl 4 8 = 4 by decide, HO.out.1, getO_nil]
  rw [show cl 4 8 = 4 by decide, HO.out.2] at hr2
  have HR2 : Hid (IsR w2 p .failed) := hr2
  have HB2 : Hid (Below w.heap.size w w2) := HB1.out.trans (hk2.below HP.out HB1.out.size)
  clear hr2 hk2
  go_wp2_with fail
  refine (done_any HR2.out).mono ?_
  rintro e w3 ⟨rfl, rfl⟩
  rw [show RS.failed.done = false from rfl]
  go_wp2
  go_ret2
  exact ⟨rfl, HB2.out⟩

set_option maxRecDepth 20000 in
set_option maxHeartbeats 4000000 in
theorem get11_some (w : World) (n : Int) (b off ca L : Nat) (zs : List Nat) (hv : Octs w (.slice (some ⟨b, off, none⟩) L ca) zs) (h4' : 4 < L) (hl : L ≤ 10000) :
    Calls Tryd.prog 9 #[.int .i64 n, .slice (some ⟨b, off, none⟩) L ca] w fun e w' => ∃ u, e = .returned (.tuple #[u, .int .i64 (ansC (getM n zs))]) ∧ Els encM 5 w' u ((getM n zs).getD []) ∧ Below w.heap.size w w' := by
  have hcap : L ≤ ca ∧ ca ≤ 9223372036854775807 := by
    obtain ⟨_, _, a', c', e, h3, h4, _⟩ := hv
    simp only [Value.slice.injEq] at e
    unfold maxLen at h4
    omega
  obtain ⟨hc1, hc2⟩ := hcap
  have h4 : 4 ≤ L := Nat.le_of_lt h4'
  have hn4 : ¬ (L : Int) ≤ 4 := by omega
  have HL : Hid (zs.length = L) := hv.lenEq
  have HV : Hid (Octs w (.slice (some ⟨b, off, none⟩) L ca) zs) := hv
  have HZ : Hid (∀ z ∈ zs, z < 256) := hv.small
  have b1 := getO_bd (zs := zs.take 4) (fun z hz => HZ.out z (List.mem_of_mem_take hz)) (k := 4) (by rw [List.length_take, HL.out]; omega) (by decide)
  obtain ⟨N, hN, hNb⟩ := nat_of_bd b1
  have HC : Hid (cntG zs = N) := by unfold Hid cntG; rw [hN, Int.toNat_natCast]
  have HT : Hid (∀ W p, IsR W p ⟨zs.take 4, false⟩ → Calls Tryd.prog 20 #[.pointer (some ⟨p, 0, none⟩), .int .i64 4] W fun e w' => e = .returned (.int .i64 (N : Nat)) ∧ IsR w' p ⟨[], false⟩ ∧ Only p W w') := fun W p h => by
    have := rnum_take h 4 (by rw [List.length_take, HL.out]; omega) (by decide)
    rw [List.take_take, Nat.min_self, hN, List.drop_take, Nat.sub_self, List.take_zero] at this
    exact this
  obtain ⟨Q, hQ⟩ : ∃ Q, Q = (L - 4) / 18 := ⟨_, rfl⟩
  have hq := quo18 h4
  rw [← hQ] at hq
  have HQ : Hid (Q = (L - 4) / 18) := hQ
  have hQb : Q ≤ 555 := by omega
  clear hv hN b1 hQ
  go_enter Tryd.func9, Tryd.ntmps9
  go_wp2_with fail
  refine (read_octs _ (zs.take 4) _ (HV.out.front h4) (by rw [List.length_take]; omega)).mono ?_
  rintro e w1 ⟨p, rfl, hr1, hb1, hp1⟩
  have HR1 : Hid (IsR w1 p ⟨zs.take 4, false⟩) := hr1
  have HB1 : Hid (Below w.heap.size w w1) := hb1
  have HP : Hid (w.heap.size ≤ p) := hp1
  clear hr1 hb1 hp1
  go_wp2_with fail
  refine (HT.out _ _ HR1.out).mono ?_
  rintro e w2 ⟨rfl, hr2, hk2⟩
  have HR2 : Hid (IsR w2 p ⟨[], false⟩) := hr2
  have HB2 : Hid (Below w.heap.size w w2) := HB1.out.trans (hk2.below HP.out HB1.out.size)
  clear hr2 hk2 HT HR1 HB1
  go_wp2_with fail
  refine (done_any HR2.out).mono ?_
  rintro e w3 ⟨rfl, rfl⟩
  rw [show (RS.mk [] false).done = true from rfl]
  clear HR2 HP
  by_cases hNQ : Q < N
  · have HG : Hid (getM n zs = none) := getM_none (by unfold fitsG; rw [HC.out, HL.out]; exact decide_eq_false (fun e => by have := HQ.out; omega))
    go_wp2
    go_ret2
    rw [HG.out]
    exact ⟨_, rfl, Els.nil _, HB2.out⟩
  · have hNQ' : N ≤ Q := Nat.le_of_not_lt hNQ
    obtain ⟨S, hSS⟩ : ∃ S, S = 4 + 18 * N := ⟨_, rfl⟩
    have hS : (4 : Int) + (N : Nat) * 18 = (S : Nat) := by omega
    have hS1 : S ≤ L := by have := HQ.out; omega
    have hS2 : S ≤ ca := by omega
    have hS3 : 4 ≤ S := by omega
    have HS : Hid (S = 4 + 18 * N) := hSS
    have HF : Hid (fitsG zs = true) := by
      unfold Hid fitsG
      rw [HC.out, HL.out]
      exact decide_eq_true (by omega)
    clear hSS hNQ
    have HV3 : Hid (Octs w3 (.slice (some ⟨b, off, none⟩) L ca) zs) := HV.out.kept HB2.out
    have HRL : Hid (((zs.take S).drop 4).length = 18 * N) := by unfold Hid; rw [List.length_drop, List.length_take, HL.out]; have := HS.out; omega
    go_wp2_with fail
    refine (read_octs _ ((zs.take S).drop 4) _ ((HV3.out.front hS1).back hS3 (.inl rfl)) (by rw [HRL.out]; omega)).mono ?_
    rintro e w4 ⟨q, rfl, hr4, hb4, hq4⟩
    have HR4 : Hid (IsR w4 q ⟨(zs.take S).drop 4, false⟩) := hr4
    have HB4 : Hid (Below w.heap.size w w4) := HB2.out.trans (hb4.mono HB2.out.size)
    have HQ4 : Hid (w.heap.size ≤ q) := Nat.le_trans HB2.out.size hq4
    clear hr4 hb4 hq4 HV3 HB2 hc1 hc2 hS1 hS2 hS3 hS hq
    have HLP : Hid ((listP zs N).length = N) := listP_length _ _
    have HAT : Hid (∀ k, k < N → (listP zs N)[k]? = some (recP (((zs.take S).drop 4).drop (18 * k)))) := fun k hk => by
      rw [listP_at hk, tail_drop, recP_take (by have := HS.out; omega)]
    have HFI : Hid (∀ m ∈ listP zs N, MdI m) := listP_fit HZ.out (by rw [HL.out]; have := HS.out; have := HF.out; unfold fitsG at this; rw [HC.out, HL.out] at this; have := of_decide_eq_true this; omega)
    have HGM : Hid (getM n zs = if rightM n (listP zs N) = true then some (listP zs N) else none) := by
      have := getM_right (n := n) HF.out
      rwa [HC.out] at this
    generalize (zs.take S).drop 4 = ys at *
    generalize listP zs N = xs at *
    clear HV HZ HC HF
    go_wp2_with (at_make; refine wpList_make_mds w4 rfl _ _ rfl xs N rfl rfl (by omega) ?_)
    intro w5 HP5 HB5 HG5
    have HR5 : Hid (IsR w5 q ⟨ys, false⟩) := HR4.out.same HB5.out
    have HB6 : Hid (Below w.heap.size w w5) := HB4.out.trans (HB5.out.mono HB4.out.size)
    have HGQ : Hid (w4.heap.size ≠ q) := fun e => by have := HR4.out.lt; omega
    have HGB : Hid (w.heap.size ≤ w4.heap.size) := HB4.out.size
    generalize w4.heap.size = G at *
    clear HR4 HB4 HB5
    go_wp2_with fail
    go_loopw [42] (fun i wr => ∃ k : Nat, i = .int .i64 (k : Nat) ∧ k ≤ N ∧ Hid (IsR wr q ⟨ys.drop (18 * k), false⟩) ∧ Hid (RowP wr G N xs k) ∧ Hid (Below w.heap.size w wr) ∧ Hid (G < wr.heap.size)) (fun i _ => N - (intOf i).toNat)
    case atStart => exact ⟨0, rfl, Nat.zero_le _, HR5.out, HP5.out, HB6.out, HG5.out⟩
    case round =>
      obtain ⟨k, rfl, hk, HR, HP, HB, HG⟩ := hrel
      clear HR5 HP5 HB6 HG5
      by_cases hlt : k < N
      · have HY : Hid (xs[k]? = some (recP (ys.drop (18 * k)))) := HAT.out k hlt
        have H18 : Hid (18 ≤ (ys.drop (18 * k)).length) := by unfold Hid; rw [List.length_drop, HRL.out]; omega
        go_wp2_with fail
        refine (take11_any HR.out H18.out).mono ?_
        rintro e w7 ⟨rfl, hr7, hk7⟩
        rw [List.drop_drop] at hr7
        have HR7 : Hid (IsR w7 q ⟨ys.drop (18 * (k + 1)), false⟩) := hr7
        have HP7 : Hid (RowP w7 G N xs k) := HP.out.only hk7 HG.out HGQ.out
        have HG7 : Hid (G < w7.heap.size) := Nat.lt_of_lt_of_le HG.out hk7.size
        have HB7 : Hid (Below w.heap.size w w7) := HB.out.trans (hk7.below HQ4.out HB.out.size)
        clear hr7 hk7 HR HP HB HG H18
        generalize recP (ys.drop (18 * k)) = m at *
        have HTH : Hid (w7.there G (k * 5) (encM m).toArray.size) := there_part HP7.out.there (by show k * 5 + 5 ≤ N * 5; omega)
        have HSZ : Hid ((Tryd.prog.info? 51).map (·.size) = some (encM m).toArray.size) := Tryd.sizeM11
        have HPX : Hid (RowP (w7.setCells G (k * 5) (encM m)) G N xs (k + 1)) := HP7.out.set hlt HY.out
        have HRX : Hid (IsR (w7.setCells G (k * 5) (encM m)) q ⟨ys.drop (18 * (k + 1)), false⟩) := HR7.out.only HP7.out.no (fun e => HGQ.out e.symm) (Kept.setCells (K := fun k => k < w7.heap.size ∧ k ≠ G) (Kept.refl _ _) (fun h => h.2 rfl) _ _)
        have HBX : Hid (Below w.heap.size w (w7.setCells G (k * 5) (encM m))) := below_setCells HB7.out HGB.out _ _
        have HGX : Hid (G < (w7.setCells G (k * 5) (encM m)).heap.size) := by
          have := HPX.out.lt (by omega)
          exact this
        go_wp2_with (with_reducible show wpList _ _ _ (Oper.mk _ (Op.store 51 _ _) _ _ _ _ :: _) _ _; go_must (refine wpList_store_mid rfl 51 _ _ rfl G (k * 5) (encM m).toArray rfl rfl HTH.out HSZ.out (all_oneCell_toArray (encM_ok.one _)) ?_))
        go_wp2
        go_roundw
        case rel => exact ⟨k + 1, by go_num, by omega, HRX.out, HPX.out, HBX.out, HGX.out⟩
        case measure => simp [intOf]; omega
      · have hkn : k = N := by omega
        have HE : Hid (Els encM 5 wr (.slice (some ⟨G, 0, none⟩) N N) xs) := by
          have := HP.out
          rw [hkn] at this
          exact this.els HG.out HLP.out (by unfold maxLen; omega)
        have hS' : (4 : Int) + (N : Nat) * 18 = (S : Nat) := by have := HS.out; omega
        clear HP HG HR HAT HRL
        have HRT : Hid (∀ W, Els encM 5 W (.slice (some ⟨G, 0, none⟩) N N) xs → Calls Tryd.prog 23 #[.int .i64 n, .slice (some ⟨G, 0, none⟩) N N] W fun e w' => e = .returned (.bool (rightM n xs)) ∧ Below W.heap.size W w') := fun W h => right11_any W _ xs n h HFI.out (by rw [HLP.out]; omega)
        go_wp2_with fail
        refine (HRT.out wr HE.out).mono ?_
        rintro e w8 ⟨rfl, hb8⟩
        have HB8 : Hid (Below w.heap.size w w8) := HB.out.trans (hb8.mono HB.out.size)
        have HE8 : Hid (Els encM 5 w8 (.slice (some ⟨G, 0, none⟩) N N) xs) := HE.out.kept hb8
        clear hb8 HE HRT HB
        generalize rightM n xs = R at *
        cases R
        · go_wp2
          go_ret2
          rw [HGM.out]
          exact ⟨_, rfl, Els.nil _, HB8.out⟩
        · have HAN : Hid (ansC (some xs) = (S : Nat)) := by
            show 4 + 18 * ((xs.length : Nat) : Int) = (S : Nat)
            rw [HLP.out]
            omega
          have HGM2 : Hid (getM n zs = some xs) := HGM.out
          go_wp2
          go_ret2
          rw [HGM2.out, HAN.out]
          exact ⟨_, rfl, HE8.out, HB8.out⟩

set_option maxRecDepth 20000 in
set_option maxHeartbeats 4000000 in
theorem get11_four (w : World) (n : Int) (b off ca : Nat) (zs : List Nat) (hv : Octs w (.slice (some ⟨b, off, none⟩) 4 ca) zs) :
    Calls Tryd.prog 9 #[.int .i64 n, .slice (some ⟨b, off, none⟩) 4 ca] w fun e w' => ∃ u, e = .returned (.tuple #[u, .int .i64 (ansC (getM n zs))]) ∧ Els encM 5 w' u ((getM n zs).getD []) ∧ Below w.heap.size w w' := by
  have hcap : 4 ≤ ca ∧ ca ≤ 9223372036854775807 := by
    obtain ⟨_, _, a', c', e, h3, h4, _⟩ := hv
    simp only [Value.slice.injEq] at e
    unfold maxLen at h4
    omega
  obtain ⟨hc1, hc2⟩ := hcap
  have hm : ca = 4 ∨ 4 < ca := by omega
  have HL : Hid (zs.length = 4) := hv.lenEq
  have HV : Hid (Octs w (.slice (some ⟨b, off, none⟩) 4 ca) zs) := hv
  have HZ : Hid (∀ z ∈ zs, z < 256) := hv.small
  have b1 := getO_bd (zs := zs.take 4) (fun z hz => HZ.out z (List.mem_of_mem_take hz)) (k := 4) (by rw [List.length_take, HL.out]; omega) (by decide)
  obtain ⟨N, hN, hNb⟩ := nat_of_bd b1
  have HC : Hid (cntG zs = N) := by unfold Hid cntG; rw [hN, Int.toNat_natCast]
  have HT : Hid (∀ W p, IsR W p ⟨zs, false⟩ → Calls Tryd.prog 20 #[.pointer (some ⟨p, 0, none⟩), .int .i64 4] W fun e w' => e = .returned (.int .i64 (N : Nat)) ∧ IsR w' p ⟨[], false⟩ ∧ Only p W w') := fun W p h => by
    have := rnum_take h 4 (by rw [HL.out]; exact Nat.le_refl _) (by decide)
    rw [hN, List.drop_of_length_le (by rw [HL.out]; exact Nat.le_refl _)] at this
    exact this
  clear hv hN b1
  rcases hm with rfl | hm
  all_goals
    go_enter Tryd.func9, Tryd.ntmps9
    go_wp2_with fail
    refine (read_octs _ zs _ HV.out (by rw [HL.out]; decide)).mono ?_
    rintro e w1 ⟨p, rfl, hr1, hb1, hp1⟩
    have HR1 : Hid (IsR w1 p ⟨zs, false⟩) := hr1
    have HB1 : Hid (Below w.heap.size w w1) := hb1
    have HP : Hid (w.heap.size ≤ p) := hp1
    clear hr1 hb1 hp1
    go_wp2_with fail
    refine (HT.out _ _ HR1.out).mono ?_
    rintro e w2 ⟨rfl, hr2, hk2⟩
    have HR2 : Hid (IsR w2 p ⟨[], false⟩) := hr2
    have HB2 : Hid (Below w.heap.size w w2) := HB1.out.trans (hk2.below HP.out HB1.out.size)
    clear hr2 hk2 HT HR1 HB1
    go_wp2_with fail
    refine (done_any HR2.out).mono ?_
    rintro e w3 ⟨rfl, rfl⟩
    rw [show (RS.mk [] false).done = true from rfl]
    clear HR2 HP
    by_cases hNQ : 0 < N
    · have HG : Hid (getM n zs = none) := getM_none (by unfold fitsG; rw [HC.out, HL.out]; exact decide_eq_false (fun e => by omega))
      have hNi : (0 : Int) < (N : Nat) := by omega
      go_wp2
      go_ret2
      rw [HG.out]
      exact ⟨_, rfl, Els.nil _, HB2.out⟩
    · obtain rfl : N = 0 := by omega
      have HG : Hid (getM n zs = some []) := by
        unfold Hid
        rw [getM_right (by unfold fitsG; rw [HC.out, HL.out]; decide), HC.out]
        rfl
      have HV3 : Hid (Octs w3 (.slice (some ⟨b, off, none⟩) 4 _) zs) := HV.out.kept HB2.out
      go_wp2_with fail
      refine (read_octs _ (zs.drop 4) _ (HV3.out.back (Nat.le_refl _) (by first | exact .inl rfl | exact .inr rfl)) (by rw [List.length_drop, HL.out]; decide)).mono ?_
      rintro e w4 ⟨q, rfl, hr4, hb4, hq4⟩
      have HB4 : Hid (Below w.heap.size w w4) := HB2.out.trans (hb4.mono HB2.out.size)
      clear hr4 hb4 hq4 HV3 HB2
      go_wp2_with (at_make; refine wpList_make_mds w4 rfl _ _ rfl [] 0 rfl rfl (by omega) ?_)
      intro w5 HP5 HB5 HG5
      have HB6 : Hid (Below w.heap.size w w5) := HB4.out.trans (HB5.out.mono HB4.out.size)
      have HE : Hid (Els encM 5 w5 (.slice (some ⟨w4.heap.size, 0, none⟩) 0 0) []) := HP5.out.els HG5.out rfl (by unfold maxLen; omega)
      clear HB4 HB5 HP5 HG5
      generalize w4.heap.size = G at *
      go_wp2_with fail
      refine wp_loop_rounds 1 ?_
      rw [rounds_succ]
      go_wp2_with fail
      refine (right11_any w5 _ [] n HE.out (by simp) (by simp)).mono ?_
      rintro e w8 ⟨rfl, hb8⟩
      rw [show rightM n [] = true from rfl]
      have HB8 : Hid (Below w.heap.size w w8) := HB6.out.trans (hb8.mono HB6.out.size)
      have HE8 : Hid (Els encM 5 w8 (.slice (some ⟨G, 0, none⟩) 0 0) []) := HE.out.kept hb8
      clear hb8 HE HB6
      go_wp2
      go_ret2
      rw [HG.out]
      exact ⟨_, rfl, HE8.out, HB8.out⟩

theorem get11_any (w : World) (n : Int) (v : Value) (zs : List Nat) (hv : Octs w v zs) (hl : zs.length ≤ 10000) :
    Calls Tryd.prog 9 #[.int .i64 n, v] w fun e w' => ∃ u, e = .returned (.tuple #[u, .int .i64 (ansC (getM n zs))]) ∧ Els encM 5 w' u ((getM n zs).getD []) ∧ Below w.heap.size w w' := by
  rcases (by omega : zs.length < 4 ∨ zs.length = 4 ∨ 4 < zs.length) with h | h | h
  · have hg : getM n zs = none := getM_none (by unfold fitsG; exact decide_eq_false (fun e => by omega))
    refine (get11_none w n v zs hv h).mono ?_
    rintro e w' ⟨rfl, hb⟩
    rw [hg]
    exact ⟨_, rfl, Els.nil _, hb⟩
  · obtain ⟨a, ca, rfl⟩ := hv.shape
    obtain ⟨b, off, rfl, _⟩ := hv.addr (by omega)
    rw [h] at hv ⊢
    exact get11_four w n b off ca zs hv
  · obtain ⟨a, ca, rfl⟩ := hv.shape
    obtain ⟨b, off, rfl, _⟩ := hv.addr (by omega)
    exact get11_some w n b off ca zs.length zs hv h hl
end Go.Proofs.YtfclhehpbniapaaDoor

/- The laws' first lines: the document's examples. -/
namespace Go.Proofs.YtfclhehpbniapaaDoor
open Go.RowKit
set_option linter.unusedVariables false

theorem put_none : strN (putM []) = ⟨#[0, 0, 0, 0]⟩ := by decide +kernel
theorem get_noughts (n : Int) : getM n [0, 0, 0, 0] = some [] := by
  rw [getM_right (by decide +kernel), show cntG [0, 0, 0, 0] = 0 by decide +kernel]
  rfl
theorem octs_nought (w : World) : Octs (w.alloc (.cells #[.int .u8 0, .int .u8 0, .int .u8 0, .int .u8 0] 5)) (.slice (some ⟨w.heap.size, 0, none⟩) 4 4) [0, 0, 0, 0] :=
  octs_new w [0, 0, 0, 0] 5 (by decide) (by decide)
set_option maxRecDepth 20000 in
set_option maxHeartbeats 1000000 in
theorem awake11 (w : World) : Calls Tryd.prog 5 #[] w fun e w' => e = .returned (.bool true) ∧ Below w.heap.size w w' := by
  have HG : Hid (Calls Tryd.prog 9 #[.int .i64 5, .slice (some ⟨w.heap.size, 0, none⟩) 4 4] (w.alloc (.cells #[.int .u8 0, .int .u8 0, .int .u8 0, .int .u8 0] 5)) fun e w' => ∃ u, e = .returned (.tuple #[u, .int .i64 4]) ∧ Below w.heap.size w w') := by
    refine (get11_any _ 5 _ _ (octs_nought w) (by decide)).mono ?_
    rintro e w' ⟨u, rfl, -, hb⟩
    rw [get_noughts]
    exact ⟨u, rfl, ((Below.refl _ _).alloc (Nat.le_refl _) _).trans (hb.mono (by simp))⟩
  go_enter Tryd.func5, Tryd.ntmps5
  go_wp2_with fail
  refine HG.out.mono ?_
  rintro e w1 ⟨u, rfl, hb1⟩
  have HB1 : Hid (Below w.heap.size w w1) := hb1
  clear hb1 HG
  go_wp2_with fail
  refine (put11_any w1 _ [] (Els.nil w1) (by simp) (by simp)).mono ?_
  rintro e w2 ⟨v, rfl, ho, hb2⟩
  have HB2 : Hid (Below w.heap.size w w2) := HB1.out.trans (hb2.mono HB1.out.size)
  have hcv := conv_octs (P := Tryd.prog) ho _ _ _ Tryd.underlying24 Tryd.underlying5 Tryd.underlying9
  rw [put_none] at hcv
  obtain ⟨a, ca, rfl⟩ := ho.shape
  clear ho hb2 HB1
  go_wp2
  go_ret
  exact ⟨rfl, HB2.out⟩
end Go.Proofs.YtfclhehpbniapaaDoor
