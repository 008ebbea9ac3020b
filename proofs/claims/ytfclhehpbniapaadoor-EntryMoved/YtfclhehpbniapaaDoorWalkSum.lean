/- Contracts of 'Add', 'Sum' and of the reference's 'Sum': sums of octets. -/
import Derived.Test.YtfclhehpbniapaaDoorWalkTake
import Derived.Test.YtfclhehpbniapaaDoorOcts
namespace Go.Proofs.YtfclhehpbniapaaDoor
open Go.RowKit
set_option linter.unusedVariables false

theorem Steps.kept {B : Nat} {w w' : World} (h : Steps w) (hb : Below B w w') (hB : 0 < B) : Steps w' :=
  fun k hk => (hb.cell (p := ⟨0, k, none⟩) hB).trans (h k hk)
theorem Steps.pos {w : World} (h : Steps w) : 0 < w.heap.size := cell_lt (h 0 (by decide))
theorem Steps.below {w w' : World} (h : Steps w) (hb : Below w.heap.size w w') : Steps w' := h.kept hb h.pos
theorem Steps.drew {w : World} (h : Steps w) : Steps w.drew := h
theorem Steps.alloc {w : World} (h : Steps w) (o : Obj) : Steps (w.alloc o) := h.below ((Below.refl _ _).alloc (Nat.le_refl _) o)

theorem octet_at {w : World} {b off : Nat} {zs : List Nat} (h : OctAt w b off zs) (hz : ∀ z ∈ zs, z < 256) (k : Nat) (hk : k < zs.length) :
    ∃ z : Nat, w.cell? ⟨b, off + k, none⟩ = some (.int .u8 z) ∧ z < 256 ∧ Hid (zs.take (k + 1) = zs.take k ++ [z]) := by
  refine ⟨zs[k]?.getD 0, h k hk, ?_, ?_⟩
  · rw [List.getElem?_eq_getElem hk]; exact hz _ (List.getElem_mem hk)
  · show zs.take (k + 1) = _
    rw [List.take_add_one, List.getElem?_eq_getElem hk]; rfl
theorem reg_take_lt (zs : List Nat) (hz : ∀ z ∈ zs, z < 256) (s k : Nat) (hs : s < 4294967296) : crcReg (zs.take k) s < 4294967296 :=
  crcReg_lt _ _ (fun z h => hz z (List.mem_of_mem_take h)) hs

theorem not_u32 (n : Nat) (h : n < 4294967296) : bits .xor .u32 IntKind.u32.max (n : Int) = ((n ^^^ crcF : Nat) : Int) := by
  have := bits_u32 crcF n (by decide) h
  rw [Nat.xor_comm]
  exact this

set_option maxHeartbeats 400000 in
theorem add_at (s b off cap : Nat) (zs : List Nat) (w : World) (hs : s < 4294967296) (hz : ∀ z ∈ zs, z < 256) (hlen : zs.length ≤ 9223372036854775807) (hc : OctAt w b off zs) (ht : Steps w) :
    Calls Tryd.prog 26 #[.int .u32 s, .slice (some ⟨b, off, none⟩) zs.length cap] w fun e w' => e = .returned (.int .u32 (crcAdd s zs : Nat)) ∧ w' = w := by
  have HZ : Hid (∀ z ∈ zs, z < 256) := hz
  have HC : Hid (OctAt w b off zs) := hc
  have HT : Hid (Steps w) := ht
  clear hz hc ht
  have H0 := not_u32 s hs
  have h0 : s ^^^ crcF < 4294967296 := Nat.xor_lt_two_pow (n := 32) hs (by decide)
  have HR : Hid (crcAdd s zs = crcReg zs (s ^^^ crcF) ^^^ crcF) := rfl
  generalize s ^^^ crcF = s0 at H0 h0 HR
  go_enter Tryd.func26, Tryd.ntmps26
  go_wp2
  go_loop [5, 12] (fun r i => ∃ k : Nat, k ≤ zs.length ∧ i = .int .i64 k ∧ r = .int .u32 (crcReg (zs.take k) s0 : Nat)) (fun _ i => zs.length - (intOf i).toNat)
  case atStart => exact ⟨0, Nat.zero_le _, rfl, rfl⟩
  case round =>
    obtain ⟨k, hk, rfl, rfl⟩ := hrel
    have hr := reg_take_lt zs HZ.out s0 k h0
    by_cases hlt : k < zs.length
    · obtain ⟨z, hcell, hb, HK⟩ := octet_at HC.out HZ.out k hlt
      have HS : Hid (crcReg (zs.take (k + 1)) s0 = crcTake (crcReg (zs.take k) s0) z) := by unfold Hid; rw [HK.out, crcReg_snoc]
      generalize crcReg (zs.take k) s0 = r at *
      go_wp2_with fail
      refine (take_any r z _ hr hb HT.out).mono ?_
      rintro e w' ⟨rfl, rfl⟩
      go_wp2
      go_round
      case rel => exact ⟨k + 1, by omega, by go_num, by rw [HS.out]⟩
      case measure => simp [intOf]; omega
    · obtain rfl : k = zs.length := by omega
      rw [List.take_length] at hr
      have H1 := not_u32 _ hr
      go_wp2
      go_ret
      exact ⟨ret_int (by rw [HR.out]), rfl⟩

theorem add_empty (s cap : Nat) (a : Option Addr) (w : World) (hs : s < 4294967296) :
    Calls Tryd.prog 26 #[.int .u32 s, .slice a 0 cap] w fun e w' => e = .returned (.int .u32 (crcAdd s [] : Nat)) ∧ w' = w := by
  have H0 := not_u32 s hs
  have h0 : s ^^^ crcF < 4294967296 := Nat.xor_lt_two_pow (n := 32) hs (by decide)
  have HR : Hid (crcAdd s [] = (s ^^^ crcF) ^^^ crcF) := rfl
  have H1 := not_u32 _ h0
  generalize s ^^^ crcF = s0 at *
  go_enter Tryd.func26, Tryd.ntmps26
  go_wp2
  refine wp_loop_rounds 1 ?_
  rw [rounds_succ]
  go_wp2
  go_ret
  exact ⟨ret_int (by rw [HR.out]), rfl⟩

theorem add_octs (s : Nat) (v : Value) (zs : List Nat) (w : World) (hs : s < 4294967296) (h : Octs w v zs) (ht : Steps w) :
    Calls Tryd.prog 26 #[.int .u32 s, v] w fun e w' => e = .returned (.int .u32 (crcAdd s zs : Nat)) ∧ w' = w := by
  have hlen := h.len
  obtain ⟨h1, h2, a, cap, rfl, h3, h4, h5⟩ := h
  rcases h5 with ⟨rfl, rfl⟩ | ⟨x, rfl, rfl | ⟨b, off, rfl, hlt, hc⟩⟩
  · obtain rfl : zs = [] := List.eq_nil_of_length_eq_zero (by omega)
    exact add_empty s 0 none w hs
  · exact add_empty s cap (some x) w hs
  · exact add_at s b off cap zs w hs h1 hlen hc ht

/-- A slice of slices of octets. -/
def OctRows (w : World) (v : Value) (zss : List (List Nat)) : Prop :=
  zss.length ≤ 9223372036854775807 ∧ ∃ a cap, v = .slice a zss.length cap ∧ (zss = [] ∨ ∃ b off, a = some ⟨b, off, none⟩ ∧ b < w.heap.size ∧ ∀ j, j < zss.length → ∃ u, w.cell? ⟨b, off + j, none⟩ = some u ∧ Octs w u (zss[j]?.getD []))

theorem crcAdd_flat_lt (zss : List (List Nat)) (s : Nat) (h : ∀ zs ∈ zss, ∀ z ∈ zs, z < 256) (hs : s < 4294967296) : crcAdd s zss.flatten < 4294967296 := by
  refine crcAdd_lt _ _ (fun z hz => ?_) hs
  rw [List.mem_flatten] at hz
  obtain ⟨l, hl, hz⟩ := hz
  exact h l hl z hz

set_option maxHeartbeats 400000 in
theorem sum_at (b off cap : Nat) (zss : List (List Nat)) (w : World) (hlen : zss.length ≤ 9223372036854775807) (hr : ∀ j, j < zss.length → ∃ u, w.cell? ⟨b, off + j, none⟩ = some u ∧ Octs w u (zss[j]?.getD [])) (ht : Steps w) :
    Calls Tryd.prog 14 #[.slice (some ⟨b, off, none⟩) zss.length cap] w fun e w' => e = .returned (.int .u32 (crcSum zss.flatten : Nat)) ∧ w' = w := by
  have HS0 : Hid (∀ zs ∈ zss, ∀ z ∈ zs, z < 256) := by
    intro zs hz
    obtain ⟨j, hj, rfl⟩ := List.getElem_of_mem hz
    obtain ⟨u, _, hu⟩ := hr j hj
    rw [List.getElem?_eq_getElem hj] at hu
    exact hu.small
  have HRW : Hid (∀ j, j < zss.length → ∃ u, w.cell? ⟨b, off + j, none⟩ = some u ∧ Octs w u (zss[j]?.getD [])) := hr
  have HT : Hid (Steps w) := ht
  clear hr ht
  go_enter Tryd.func14, Tryd.ntmps14
  go_wp2
  go_loop [3, 8] (fun r i => ∃ k : Nat, k ≤ zss.length ∧ i = .int .i64 k ∧ r = .int .u32 (crcSum (zss.take k).flatten : Nat)) (fun _ i => zss.length - (intOf i).toNat)
  case atStart => exact ⟨0, Nat.zero_le _, rfl, by rw [show crcSum (zss.take 0).flatten = 0 from crcAdd_nil 0]; rfl⟩
  case round =>
    obtain ⟨k, hk, rfl, rfl⟩ := hrel
    have hr : crcSum (zss.take k).flatten < 4294967296 := crcAdd_flat_lt _ 0 (fun zs h => HS0.out zs (List.mem_of_mem_take h)) (by decide)
    by_cases hlt : k < zss.length
    · obtain ⟨u, hcell, hu⟩ := HRW.out k hlt
      have HU : Hid (Octs w u (zss[k]?.getD [])) := hu
      clear hu
      have HS : Hid (crcSum (zss.take (k + 1)).flatten = crcAdd (crcSum (zss.take k).flatten) (zss[k]?.getD [])) := by
        unfold Hid
        rw [List.take_add_one, List.getElem?_eq_getElem hlt, List.flatten_append]
        simp [crcSum, crcAdd_append]
      generalize crcSum (zss.take k).flatten = r at *
      generalize zss[k]?.getD [] = zs at *
      go_wp2_with fail
      refine (add_octs r u zs _ hr HU.out HT.out).mono ?_
      rintro e w' ⟨rfl, rfl⟩
      go_wp2
      go_round
      case rel => exact ⟨k + 1, by omega, by go_num, by rw [HS.out]⟩
      case measure => simp [intOf]; omega
    · obtain rfl : k = zss.length := by omega
      go_wp2
      go_ret
      exact ⟨rfl, rfl⟩

theorem sum_empty (cap : Nat) (a : Option Addr) (w : World) :
    Calls Tryd.prog 14 #[.slice a 0 cap] w fun e w' => e = .returned (.int .u32 0) ∧ w' = w := by
  go_enter Tryd.func14, Tryd.ntmps14
  go_wp2
  refine wp_loop_rounds 1 ?_
  rw [rounds_succ]
  go_wp2
  go_ret
  exact ⟨rfl, rfl⟩

theorem sum_rows (v : Value) (zss : List (List Nat)) (w : World) (h : OctRows w v zss) (ht : Steps w) :
    Calls Tryd.prog 14 #[v] w fun e w' => e = .returned (.int .u32 (crcSum zss.flatten : Nat)) ∧ w' = w := by
  obtain ⟨hl, a, cap, rfl, rfl | ⟨b, off, rfl, hlt, hr⟩⟩ := h
  · exact sum_empty cap a w
  · exact sum_at b off cap zss w hl hr ht

/-- The one list that a call with one argument hands over. -/
theorem sum_one (g : Nat) (v : Value) (zs : List Nat) (w : World) (hg : w.cell? ⟨g, 0, none⟩ = some v) (h : Octs w v zs) (ht : Steps w) :
    Calls Tryd.prog 14 #[.slice (some ⟨g, 0, none⟩) 1 1] w fun e w' => e = .returned (.int .u32 (crcSum zs : Nat)) ∧ w' = w := by
  have := sum_at g 0 1 [zs] w (by simp) (fun j hj => by
    obtain rfl : j = 0 := by simpa using hj
    exact ⟨v, hg, h⟩) ht
  simpa using this

theorem sub_F (n : Nat) (h : n < 4294967296) : (4294967295 : Int) - n = ((n ^^^ crcF : Nat) : Int) := by rw [xor_F n h]; omega

set_option maxHeartbeats 400000 in
theorem refSum_at (b off cap : Nat) (zs : List Nat) (w : World) (hz : ∀ z ∈ zs, z < 256) (hlen : zs.length ≤ 9223372036854775807) (hc : OctAt w b off zs) :
    Calls Tryd.prog 18 #[.slice (some ⟨b, off, none⟩) zs.length cap] w fun e w' => e = .returned (.int .u32 (crcSum zs : Nat)) ∧ w' = w := by
  have HZ : Hid (∀ z ∈ zs, z < 256) := hz
  have HC : Hid (OctAt w b off zs) := hc
  clear hz hc
  have HR : Hid (crcSum zs = crcReg zs 4294967295 ^^^ crcF) := rfl
  go_enter Tryd.func18, Tryd.ntmps18
  go_wp2
  go_loop [3, 4] (fun r i => ∃ k : Nat, k ≤ zs.length ∧ i = .int .i64 k ∧ r = .int .u32 (crcReg (zs.take k) 4294967295 : Nat)) (fun _ i => zs.length - (intOf i).toNat)
  case atStart => exact ⟨0, Nat.zero_le _, rfl, rfl⟩
  case round =>
    obtain ⟨k, hk, rfl, rfl⟩ := hrel
    have hr := reg_take_lt zs HZ.out 4294967295 k (by decide)
    by_cases hlt : k < zs.length
    · obtain ⟨z, hcell, hb, HK⟩ := octet_at HC.out HZ.out k hlt
      have HS : Hid (crcReg (zs.take (k + 1)) 4294967295 = crcTake (crcReg (zs.take k) 4294967295) z) := by unfold Hid; rw [HK.out, crcReg_snoc]
      generalize crcReg (zs.take k) 4294967295 = r at *
      go_wp2_with fail
      refine (refTake_any r z _ hr hb).mono ?_
      rintro e w' ⟨rfl, rfl⟩
      go_wp2
      go_round
      case rel => exact ⟨k + 1, by omega, by go_num, by rw [HS.out]⟩
      case measure => simp [intOf]; omega
    · obtain rfl : k = zs.length := by omega
      rw [List.take_length] at hr
      have H1 : Hid ((4294967295 : Int) - (crcReg zs 4294967295 : Nat) = (crcReg zs 4294967295 ^^^ crcF : Nat)) := sub_F _ hr
      go_wp2
      go_ret
      exact ⟨ret_int (by rw [HR.out, ← H1.out]), rfl⟩

theorem refSum_empty (cap : Nat) (a : Option Addr) (w : World) :
    Calls Tryd.prog 18 #[.slice a 0 cap] w fun e w' => e = .returned (.int .u32 (crcSum [] : Nat)) ∧ w' = w := by
  have HR : Hid ((crcSum [] : Nat) = 0) := by unfold Hid; decide
  go_enter Tryd.func18, Tryd.ntmps18
  go_wp2
  refine wp_loop_rounds 1 ?_
  rw [rounds_succ]
  go_wp2
  go_ret
  exact ⟨ret_int (by rw [HR.out]; rfl), rfl⟩

theorem refSum_octs (v : Value) (zs : List Nat) (w : World) (h : Octs w v zs) :
    Calls Tryd.prog 18 #[v] w fun e w' => e = .returned (.int .u32 (crcSum zs : Nat)) ∧ w' = w := by
  have hlen := h.len
  obtain ⟨h1, h2, a, cap, rfl, h3, h4, h5⟩ := h
  rcases h5 with ⟨rfl, rfl⟩ | ⟨x, rfl, rfl | ⟨b, off, rfl, hlt, hc⟩⟩
  · obtain rfl : zs = [] := List.eq_nil_of_length_eq_zero (by omega)
    exact refSum_empty 0 none w
  · exact refSum_empty cap (some x) w
  · exact refSum_at b off cap zs w h1 hlen hc
end Go.Proofs.YtfclhehpbniapaaDoor
