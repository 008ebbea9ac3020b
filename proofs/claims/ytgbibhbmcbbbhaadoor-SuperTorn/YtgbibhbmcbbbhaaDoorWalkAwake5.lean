/- Contract of the laws' first lines. -/
import Derived.Test.YtgbibhbmcbbbhaaDoorWalkRefTop5
namespace Go.Proofs.YtgbibhbmcbbbhaaDoor
open Go.RowKit
set_option linter.unusedVariables false

def plainS (g : Int) : Sup := ⟨g, 4, 1, 0, 0, 0, 1, 0⟩
theorem plainS_fits (g : Int) (h1 : 1 ≤ g) (h2 : g ≤ 281474976710656) : (plainS g).Fits := by constructor <;> simp only [plainS] <;> omega
theorem plainS_ok (g : Int) (h1 : 1 ≤ g) (h2 : g ≤ 281474976710656) : okS (plainS g) = true := okS_right.2 (by constructor <;> simp only [plainS] <;> omega)
theorem newest_two (x y : List Nat) (hx : x.length = 128) (hy : y.length = 128) : newestS (x ++ y) = pickS (evenS (toldS x)) (oddS (toldS y)) := by
  have e : (x ++ y).length = 256 := by rw [List.length_append, hx, hy]
  unfold newestS
  rw [if_pos e, ← hx, List.take_left, List.drop_left]
theorem sect_head (s : Sup) : (sect s)[0]? = some 77 := by
  unfold sect body; rfl
theorem awake_one : newestS (sect (plainS 6) ++ sect (plainS 7)) = some (plainS 7) := by
  rw [newest_two _ _ (sect_length _) (sect_length _), toldS_sect _ (plainS_fits 6 (by decide) (by decide)) (plainS_ok 6 (by decide) (by decide)), toldS_sect _ (plainS_fits 7 (by decide) (by decide)) (plainS_ok 7 (by decide) (by decide))]
  rfl
theorem awake_two : newestS (sect (plainS 6) ++ (sect (plainS 7)).set 0 76) = some (plainS 6) := by
  rw [newest_two _ _ (sect_length _) (by rw [List.length_set, sect_length]), toldS_sect _ (plainS_fits 6 (by decide) (by decide)) (plainS_ok 6 (by decide) (by decide)), turned_told (plainS 7) 0 76 (by decide) (by decide) (by rw [sect_head]; decide)]
  rfl
theorem u8s_setA (zs : List Nat) (k z : Nat) : (u8s zs).toArray.setIfInBounds k (.int .u8 (z : Nat)) = (u8s (zs.set k z)).toArray := by
  rw [← u8s_set]; simp

set_option maxHeartbeats 1000000 in
set_option maxRecDepth 20000 in
theorem awake5 (w : World) (ht : Steps w) : Calls Tryd.prog 8 #[] w fun e w' => e = .returned (.bool true) ∧ Below w.heap.size w w' := by
  obtain ⟨i0, hi, hz0, hz1, hz2⟩ := info_parts Tryd.infoU8'
  have HT : Hid (Steps w) := ht
  have HN1 : Hid (newestS (sect (plainS 6) ++ sect (plainS 7)) = some (plainS 7)) := awake_one
  have HN2 : Hid (newestS (sect (plainS 6) ++ (sect (plainS 7)).set 0 76) = some (plainS 6)) := awake_two
  have HAL : Hid ((sect (plainS 6)).length = 128) := sect_length _
  have HBL : Hid ((sect (plainS 7)).length = 128) := sect_length _
  have HAS : Hid (∀ z ∈ sect (plainS 6), z < 256) := sect_small _
  have HBS : Hid (∀ z ∈ sect (plainS 7), z < 256) := sect_small _
  have HH : Hid ((sect (plainS 7))[0]? = some 77) := sect_head _
  have HP6 := fun w' (h : Steps w') => put_ok (plainS 6) (plainS_fits 6 (by decide) (by decide)) (plainS_ok 6 (by decide) (by decide)) w' h
  have HP7 := fun w' (h : Steps w') => put_ok (plainS 7) (plainS_fits 7 (by decide) (by decide)) (plainS_ok 7 (by decide) (by decide)) w' h
  generalize sect (plainS 6) = A at *
  generalize sect (plainS 7) = Bq at *
  have H6 : Hid (∀ w', Steps w' → _) := HP6
  have H7 : Hid (∀ w', Steps w' → _) := HP7
  clear ht HP6 HP7
  go_enter Tryd.func8, Tryd.ntmps8
  go_wp2_with fail
  refine (plain5 6 _).mono ?_
  rintro e wa ⟨rfl, hba⟩
  go_wp2_with fail
  refine (H6.out wa (HT.out.below hba)).mono ?_
  rintro e w1 ⟨p6, rfl, g6, hp6, hb1⟩
  have HB1 : Hid (Below w.heap.size w w1) := hba.trans (hb1.mono hba.size)
  have G61 : Hid (w1.heap[p6]? = some (.cells (u8s A).toArray 43 (0, 0))) := g6
  clear g6 hb1 hba hp6
  go_wp2_with fail
  refine (plain5 7 _).mono ?_
  rintro e wb ⟨rfl, hbb⟩
  go_wp2_with fail
  refine (H7.out wb ((HT.out.below HB1.out).below hbb)).mono ?_
  rintro e w2 ⟨p7, rfl, g7, hp7, hb2⟩
  have hb12 : Below w1.heap.size w1 w2 := hbb.trans (hb2.mono hbb.size)
  have HB2 : Hid (Below w.heap.size w w2) := HB1.out.trans (hb12.mono HB1.out.size)
  have G62 : Hid (w2.heap[p6]? = some (.cells (u8s A).toArray 43 (0, 0))) := row_same G61.out hb12 (lt_of_heap G61.out)
  have G72 : Hid (w2.heap[p7]? = some (.cells (u8s Bq).toArray 43 (0, 0))) := g7
  have HP : Hid (p6 < w1.heap.size) := lt_of_heap G61.out
  have HQ : Hid (w.heap.size ≤ p7) := by have := HB1.out.size; have := hbb.size; unfold Hid; omega
  have HPQ : Hid (p6 ≠ p7) := by have := HP.out; have := hbb.size; unfold Hid; omega
  have OA2 : Hid (∀ w', Below w2.heap.size w2 w' → Octs w' (.slice (some ⟨p6, 0, none⟩) 128 128) A) := fun w' h => octs_row0 (row_same G62.out h (lt_of_heap G62.out)) HAS.out HAL.out (by decide)
  have OB2 : Hid (∀ w', Below w2.heap.size w2 w' → Octs w' (.slice (some ⟨p7, 0, none⟩) 128 128) Bq) := fun w' h => octs_row0 (row_same G72.out h (lt_of_heap G72.out)) HBS.out HBL.out (by decide)
  clear g7 hb2 hbb hb12 G61 hp7
  go_wp2_with (at_builtin; refine wpList_append_octs _ rfl _ _ 26 rfl w2.heap.size 5 i0 Tryd.underlying26 hi hz0 hz1 hz2 _ 0 [] rfl (World.ownsRow_made _ #[] 0 (Nat.le_refl _) (by decide) rfl) _ A rfl (OA2.out _ ((Below.refl _ _).alloc (Nat.le_refl _) _)) ?d1 ?d2 ?_)
  case d1 => rw [HAL.out]; decide
  case d2 => simp
  intro v3 w3 hown3 hg3
  have HB3 : Hid (Below w2.heap.size w2 w3) := ((Below.refl _ _).alloc (Nat.le_refl _) _).trans (below_grown (World.ownsRow_made _ #[] 0 (Nat.le_refl _) (by decide) rfl) hg3 (by simp))
  have hs3 : w2.heap.size ≤ w3.heap.size := HB3.out.size
  clear hg3
  go_wp2_with (at_builtin; refine wpList_append_octs _ rfl _ _ 26 rfl w2.heap.size 5 i0 Tryd.underlying26 hi hz0 hz1 hz2 _ A.length A rfl hown3 _ Bq rfl (OB2.out _ HB3.out) ?d3 ?d4 ?_)
  case d3 => rw [HAL.out, HBL.out]; decide
  case d4 => exact hs3
  intro v4 w4 hown4 hg4
  have HB4 : Hid (Below w2.heap.size w2 w4) := HB3.out.trans (below_grown hown3 hg4 hs3)
  have HO4 : Hid (Octs w4 v4 (A ++ Bq)) := Octs.owned hown4 (fun z hz => by
    rcases List.mem_append.1 hz with h | h
    · exact HAS.out z h
    · exact HBS.out z h)
  clear hown4 hg4 hown3
  go_wp2_with fail
  refine (newest_v _ _ _ HO4.out ((HT.out.below HB2.out).below HB4.out)).mono ?_
  rintro e w5 ⟨rfl, hb5⟩
  rw [HN1.out]
  have HV1 : Hid (toldV (some (plainS 7)) = .tuple #[.agg #[.int .i64 7, .int .i64 4, .int .i64 1, .int .i64 0, .int .i64 0, .int .u32 0, .int .i64 1, .int .i64 0], .bool true]) := rfl
  rw [HV1.out]
  have HB5 : Hid (Below w2.heap.size w2 w5) := HB4.out.trans (hb5.mono HB4.out.size)
  have hs5 : w2.heap.size ≤ w5.heap.size := HB5.out.size
  clear hb5
  have hl7 : p7 < w2.heap.size := lt_of_heap G72.out
  have B6 : Hid (Below w2.heap.size w2 (w5.alloc (.cells #[.int .i64 7, .int .i64 4, .int .i64 1, .int .i64 0, .int .i64 0, .int .u32 0, .int .i64 1, .int .i64 0] 24))) := HB5.out.alloc hs5 _
  have G76 : Hid ((w5.alloc (.cells #[.int .i64 7, .int .i64 4, .int .i64 1, .int .i64 0, .int .i64 0, .int .u32 0, .int .i64 1, .int .i64 0] 24)).heap[p7]? = some (.cells (u8s Bq).toArray 43 (0, 0))) := row_same G72.out B6.out hl7
  have G66 : Hid ((w5.alloc (.cells #[.int .i64 7, .int .i64 4, .int .i64 1, .int .i64 0, .int .i64 0, .int .u32 0, .int .i64 1, .int .i64 0] 24)).heap[p6]? = some (.cells (u8s A).toArray 43 (0, 0))) := row_same G62.out B6.out (lt_of_heap G62.out)
  have c6 : (w5.alloc (.cells #[.int .i64 7, .int .i64 4, .int .i64 1, .int .i64 0, .int .i64 0, .int .u32 0, .int .i64 1, .int .i64 0] 24)).cell? ⟨p7, 0, none⟩ = some (.int .u8 77) := by
    rw [cell_of_row _ _ _ _ _ _ G76.out, u8s_at, HH.out]; rfl
  have f6 : (w5.alloc (.cells #[.int .i64 7, .int .i64 4, .int .i64 1, .int .i64 0, .int .i64 0, .int .u32 0, .int .i64 1, .int .i64 0] 24)).frozen? ⟨p7, 0, none⟩ = false := by simp [World.frozen?, G76.out]
  have hxor : bits .xor .u8 77 1 = 76 := by decide +kernel
  have G77 : Hid (((w5.alloc (.cells #[.int .i64 7, .int .i64 4, .int .i64 1, .int .i64 0, .int .i64 0, .int .u32 0, .int .i64 1, .int .i64 0] 24)).setCell ⟨p7, 0, none⟩ (.int .u8 76)).heap[p7]? = some (.cells (u8s (Bq.set 0 76)).toArray 43 (0, 0))) := by
    have := heap_set_row G76.out 0 (.int .u8 ((76 : Nat) : Int))
    rw [u8s_setA] at this
    exact this
  have G67 : Hid (((w5.alloc (.cells #[.int .i64 7, .int .i64 4, .int .i64 1, .int .i64 0, .int .i64 0, .int .u32 0, .int .i64 1, .int .i64 0] 24)).setCell ⟨p7, 0, none⟩ (.int .u8 76)).heap[p6]? = some (.cells (u8s A).toArray 43 (0, 0))) := (Below.heap_setCell _ _ _ _ HPQ.out).trans G66.out
  have HB7 : Hid (Below w.heap.size w ((w5.alloc (.cells #[.int .i64 7, .int .i64 4, .int .i64 1, .int .i64 0, .int .i64 0, .int .u32 0, .int .i64 1, .int .i64 0] 24)).setCell ⟨p7, 0, none⟩ (.int .u8 76))) := (HB2.out.trans (B6.out.mono HB2.out.size)).setCell (p := ⟨p7, 0, none⟩) HQ.out _
  have HS7 : Hid (((w5.alloc (.cells #[.int .i64 7, .int .i64 4, .int .i64 1, .int .i64 0, .int .i64 0, .int .u32 0, .int .i64 1, .int .i64 0] 24)).setCell ⟨p7, 0, none⟩ (.int .u8 76)).heap.size = w5.heap.size + 1) := by simp [Hid]
  have HBS7 : Hid (∀ z ∈ Bq.set 0 76, z < 256) := set_small _ _ _ HBS.out (by decide)
  have HBL7 : Hid ((Bq.set 0 76).length = 128) := by unfold Hid; rw [List.length_set, HBL.out]
  have OA7 : Hid (∀ w', Below (w5.heap.size + 1) ((w5.alloc (.cells #[.int .i64 7, .int .i64 4, .int .i64 1, .int .i64 0, .int .i64 0, .int .u32 0, .int .i64 1, .int .i64 0] 24)).setCell ⟨p7, 0, none⟩ (.int .u8 76)) w' → Octs w' (.slice (some ⟨p6, 0, none⟩) 128 128) A) := fun w' h => octs_row0 (row_same G67.out h (by have := lt_of_heap G67.out; rw [HS7.out] at this; exact this)) HAS.out HAL.out (by decide)
  have OB7 : Hid (∀ w', Below (w5.heap.size + 1) ((w5.alloc (.cells #[.int .i64 7, .int .i64 4, .int .i64 1, .int .i64 0, .int .i64 0, .int .u32 0, .int .i64 1, .int .i64 0] 24)).setCell ⟨p7, 0, none⟩ (.int .u8 76)) w' → Octs w' (.slice (some ⟨p7, 0, none⟩) 128 128) (Bq.set 0 76)) := fun w' h => octs_row0 (row_same G77.out h (by have := lt_of_heap G77.out; rw [HS7.out] at this; exact this)) HBS7.out HBL7.out (by decide)
  have hc7 : ((w5.alloc (.cells #[.int .i64 7, .int .i64 4, .int .i64 1, .int .i64 0, .int .i64 0, .int .u32 0, .int .i64 1, .int .i64 0] 24)).setCell ⟨p7, 0, none⟩ (.int .u8 76)).cell? ⟨w5.heap.size, 0, none⟩ = some (.int .i64 7) := (cell_other _ _ _ _ (by show w5.heap.size ≠ p7; omega)).trans (by rw [cell_of_row _ _ _ _ _ _ (heap_alloc_new w5 _)]; rfl)
  generalize Bq.set 0 76 = Bt at *
  have hown0 : (((w5.alloc (.cells #[.int .i64 7, .int .i64 4, .int .i64 1, .int .i64 0, .int .i64 0, .int .u32 0, .int .i64 1, .int .i64 0] 24)).setCell ⟨p7, 0, none⟩ (.int .u8 76)).alloc (.cells #[] 5)).ownsRow (w5.heap.size + 1) 5 1 (.slice (some ⟨w5.heap.size + 1, 0, none⟩) 0 0) 0 (u8s []) := by
    have := World.ownsRow_made (w := ((w5.alloc (.cells #[.int .i64 7, .int .i64 4, .int .i64 1, .int .i64 0, .int .i64 0, .int .u32 0, .int .i64 1, .int .i64 0] 24)).setCell ⟨p7, 0, none⟩ (.int .u8 76))) (e := 5) (size := 1) (base := w5.heap.size + 1) #[] 0 (by rw [HS7.out]; exact Nat.le_refl _) (by decide) rfl
    rwa [HS7.out] at this
  go_wp2_with (at_builtin; go_must (refine wpList_append_octs _ rfl _ _ 26 rfl (w5.heap.size + 1) 5 i0 Tryd.underlying26 hi hz0 hz1 hz2 _ 0 [] rfl hown0 _ A rfl (OA7.out _ ((Below.refl _ _).alloc (Nat.le_of_eq HS7.out.symm) _)) ?e1 ?e2 ?_))
  case e1 => rw [HAL.out]; decide
  case e2 => simp
  intro v8 w8 hown8 hg8
  have HB8 : Hid (Below (w5.heap.size + 1) ((w5.alloc (.cells #[.int .i64 7, .int .i64 4, .int .i64 1, .int .i64 0, .int .i64 0, .int .u32 0, .int .i64 1, .int .i64 0] 24)).setCell ⟨p7, 0, none⟩ (.int .u8 76)) w8) := ((Below.refl _ _).alloc (Nat.le_of_eq HS7.out.symm) _).trans (below_grown hown0 hg8 (by simp))
  have hs8 : w5.heap.size + 1 ≤ w8.heap.size := by have := HB8.out.size; rw [HS7.out] at this; exact this
  clear hg8 hown0 c6 f6
  go_wp2_with (at_builtin; go_must (refine wpList_append_octs _ rfl _ _ 26 rfl (w5.heap.size + 1) 5 i0 Tryd.underlying26 hi hz0 hz1 hz2 _ A.length A rfl hown8 _ Bt rfl (OB7.out _ HB8.out) ?e3 ?e4 ?_))
  case e3 => rw [HAL.out, HBL7.out]; decide
  case e4 => exact hs8
  intro v9 w9 hown9 hg9
  have HB9 : Hid (Below (w5.heap.size + 1) ((w5.alloc (.cells #[.int .i64 7, .int .i64 4, .int .i64 1, .int .i64 0, .int .i64 0, .int .u32 0, .int .i64 1, .int .i64 0] 24)).setCell ⟨p7, 0, none⟩ (.int .u8 76)) w9) := HB8.out.trans (below_grown hown8 hg9 hs8)
  have HO9 : Hid (Octs w9 v9 (A ++ Bt)) := Octs.owned hown9 (fun z hz => by
    rcases List.mem_append.1 hz with h | h
    · exact HAS.out z h
    · exact HBS7.out z h)
  have HBw9 : Hid (Below w.heap.size w w9) := HB7.out.trans (HB9.out.mono (by have := HB7.out.size; rw [HS7.out] at this; exact this))
  clear hown9 hg9 hown8
  go_wp2_with fail
  refine (newest_v _ _ _ HO9.out (HT.out.below HBw9.out)).mono ?_
  rintro e w10 ⟨rfl, hb10⟩
  rw [HN2.out]
  have HV2 : Hid (toldV (some (plainS 6)) = .tuple #[.agg #[.int .i64 6, .int .i64 4, .int .i64 1, .int .i64 0, .int .i64 0, .int .u32 0, .int .i64 1, .int .i64 0], .bool true]) := rfl
  rw [HV2.out]
  have HB10 : Hid (Below (w5.heap.size + 1) ((w5.alloc (.cells #[.int .i64 7, .int .i64 4, .int .i64 1, .int .i64 0, .int .i64 0, .int .u32 0, .int .i64 1, .int .i64 0] 24)).setCell ⟨p7, 0, none⟩ (.int .u8 76)) w10) := HB9.out.trans (hb10.mono (by have := HB9.out.size; rw [HS7.out] at this; exact this))
  have HBw10 : Hid (Below w.heap.size w w10) := HBw9.out.trans (hb10.mono HBw9.out.size)
  have c10 : w10.cell? ⟨w5.heap.size, 0, none⟩ = some (.int .i64 7) := (HB10.out.cell (p := ⟨w5.heap.size, 0, none⟩) (by show w5.heap.size < _; omega)).trans hc7
  have hl10 : w5.heap.size < w10.heap.size := cell_lt c10
  have c11 : ∀ o, (w10.alloc o).cell? ⟨w5.heap.size, 0, none⟩ = some (.int .i64 7) := fun o => (World.cell?_alloc_past _ _ _ hl10).trans c10
  clear hb10 hc7
  go_wp2
  go_ret
  exact ⟨rfl, HBw10.out.alloc HBw10.out.size _⟩
end Go.Proofs.YtgbibhbmcbbbhaaDoor
