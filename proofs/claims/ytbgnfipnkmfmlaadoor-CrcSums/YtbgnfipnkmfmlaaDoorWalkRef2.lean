/- Contracts of the reference's 'Seal' and 'All'. -/
import Derived.Test.YtbgnfipnkmfmlaaDoorWalkSeal
namespace Go.Proofs.YtbgnfipnkmfmlaaDoor
open Go.RowKit
set_option linter.unusedVariables false

theorem ret_str {a b : ByteArray} (h : a = b) : Ending.returned (.string a) = .returned (.string b) := by rw [h]
theorem cells_four (s : Nat) (h : s < 4294967296) : (u8s (octN s)).toArray = #[Value.int .u8 ((s : Int) % 256), .int .u8 ((s : Int) / 256 % 256), .int .u8 ((s : Int) / 65536 % 256), .int .u8 ((s : Int) / 16777216)] := by
  have e : s / 16777216 % 256 = s / 16777216 := by omega
  simp [u8s, octN, e]
theorem conv_four (s : Nat) (w : World) (h : s < 4294967296) :
    (convert 26 9 (.slice (some ⟨w.heap.size, 0, none⟩) 4 4)).run Tryd.prog (w.alloc (.cells #[Value.int .u8 ((s : Int) % 256), .int .u8 ((s : Int) / 256 % 256), .int .u8 ((s : Int) / 65536 % 256), .int .u8 ((s : Int) / 16777216)] 5)) =
      .ok (.string (strN (octN s))) (w.alloc (.cells #[Value.int .u8 ((s : Int) % 256), .int .u8 ((s : Int) / 256 % 256), .int .u8 ((s : Int) / 65536 % 256), .int .u8 ((s : Int) / 16777216)] 5)) := by
  rw [← cells_four s h]
  exact conv_octs (octs_new w (octN s) 5 (octN_small s) (by simp [octN, maxLen])) 26 5 9 Tryd.underlying26 Tryd.underlying5 Tryd.underlying9

set_option maxHeartbeats 400000 in
theorem refSeal_any (a : Option Addr) (cap : Nat) (zs : List Nat) (w : World) (h : Octs w (.slice a zs.length cap) zs) (hlen : zs.length ≤ 100000) :
    Calls Tryd.prog 15 #[.slice a zs.length cap] w fun e w' => e = .returned (.string (strN (zs ++ octN (crcSum zs)))) ∧ Below w.heap.size w w' := by
  have HO : Hid (Octs w (.slice a zs.length cap) zs) := h
  have hs := crcSum_lt zs h.small
  have hcv := conv_octs (P := Tryd.prog) h 26 5 9 Tryd.underlying26 Tryd.underlying5 Tryd.underlying9
  clear h
  go_enter Tryd.func15, Tryd.ntmps15
  go_wp2_with fail
  refine (refSum_octs _ zs _ HO.out).mono ?_
  rintro e w1 ⟨rfl, rfl⟩
  have HA : Hid (strN zs ++ strN (octN (crcSum zs)) = strN (zs ++ octN (crcSum zs))) := strN_append _ _
  have hcv4 := conv_four (crcSum zs) w1 hs
  have hl1 := strN_size zs
  have hl2 : (strN (octN (crcSum zs))).size = 4 := strN_size _
  go_wp2
  go_ret
  exact ⟨ret_str HA.out, (Below.refl _ _).alloc (Nat.le_refl _) _⟩

set_option maxHeartbeats 400000 in
theorem refAll_at (b off cap : Nat) (zss : List (List Nat)) (w : World) (hb : b < w.heap.size) (hlen : zss.length ≤ 9223372036854775807) (hr : ∀ j, j < zss.length → ∃ u, w.cell? ⟨b, off + j, none⟩ = some u ∧ Octs w u (zss[j]?.getD [])) (hn : zss.flatten.length ≤ 100000) :
    Calls Tryd.prog 12 #[.slice (some ⟨b, off, none⟩) zss.length cap] w fun e w' => ∃ v', e = .returned v' ∧ Octs w' v' zss.flatten ∧ Below w.heap.size w w' := by
  obtain ⟨i0, hi, hz0, hz1, hz2⟩ := info_parts Tryd.infoU8'
  have HS0 : Hid (∀ zs ∈ zss, ∀ z ∈ zs, z < 256) := by
    intro zs hz
    obtain ⟨j, hj, rfl⟩ := List.getElem_of_mem hz
    obtain ⟨u, _, hu⟩ := hr j hj
    rw [List.getElem?_eq_getElem hj] at hu
    exact hu.small
  have HRW : Hid (∀ j, j < zss.length → ∃ u, w.cell? ⟨b, off + j, none⟩ = some u ∧ Octs w u (zss[j]?.getD [])) := hr
  clear hr
  go_enter Tryd.func12, Tryd.ntmps12
  go_wp2
  go_loopw [3, 4] (fun v i wr => ∃ k : Nat, k ≤ zss.length ∧ i = .int .i64 k ∧ wr.ownsRow w.heap.size 5 1 v (zss.take k).flatten.length (u8s (zss.take k).flatten) ∧ Below w.heap.size w wr)
    (fun _ i _ => zss.length - (intOf i).toNat)
  case atStart => exact ⟨0, Nat.zero_le _, rfl, World.ownsRow_nil _ _ _ _, Below.refl _ _⟩
  case round =>
    obtain ⟨k, hk, rfl, hown, hnx⟩ := hrel
    have hsz := hnx.size
    by_cases hlt : k < zss.length
    · obtain ⟨u, hcell0, hu⟩ := HRW.out k hlt
      have hcell : wr.cell? ⟨b, off + k, none⟩ = some u := (hnx.cell (p := ⟨b, off + k, none⟩) hb).trans hcell0
      have HU : Hid (Octs wr u (zss[k]?.getD [])) := hu.kept hnx
      have HS : Hid ((zss.take (k + 1)).flatten = (zss.take k).flatten ++ (zss[k]?.getD [])) := by
        unfold Hid
        rw [List.take_add_one, List.getElem?_eq_getElem hlt, List.flatten_append]
        simp
      have HN : Hid ((zss.take k).flatten.length + (zss[k]?.getD []).length ≤ 100000) := by
        unfold Hid
        have h1 : zss.flatten = (zss.take (k + 1)).flatten ++ (zss.drop (k + 1)).flatten := by rw [← List.flatten_append, List.take_append_drop]
        have h2 := congrArg List.length h1
        rw [HS.out, List.length_append, List.length_append] at h2
        omega
      clear hu hcell0
      generalize (zss.take k).flatten = xs at *
      generalize zss[k]?.getD [] = zs at *
      go_wp2_with (at_builtin; refine wpList_append_octs _ rfl _ _ 26 rfl w.heap.size 5 i0 Tryd.underlying26 hi hz0 hz1 hz2 _ xs.length xs rfl hown _ zs rfl HU.out ?c1 ?c2 ?_)
      case c1 => have := HN.out; omega
      case c2 => exact hsz
      intro v' w1 hown' hg
      have R : Hid (w1.ownsRow w.heap.size 5 1 v' (zss.take (k + 1)).flatten.length (u8s (zss.take (k + 1)).flatten)) := by
        unfold Hid; rw [HS.out, List.length_append]; exact hown'
      have R2 : Hid (Below w.heap.size w w1) := hnx.trans (below_grown hown hg hsz)
      clear hown' hg hown hnx hcell
      go_wp2
      go_roundw
      case rel => exact ⟨k + 1, by omega, by go_num, R.out, R2.out⟩
      case measure => simp [intOf]; omega
    · obtain rfl : k = zss.length := by omega
      rw [List.take_length] at hown
      have HO : Hid (∀ v, wr.ownsRow w.heap.size 5 1 v zss.flatten.length (u8s zss.flatten) → Octs wr v zss.flatten) := fun v h => Octs.owned h (fun z hz => by
        rw [List.mem_flatten] at hz
        obtain ⟨l, hl, hz⟩ := hz
        exact HS0.out l hl z hz)
      go_wp2
      go_ret
      exact ⟨_, rfl, HO.out _ hown, hnx⟩

theorem refAll_empty (cap : Nat) (a : Option Addr) (w : World) :
    Calls Tryd.prog 12 #[.slice a 0 cap] w fun e w' => e = .returned (.slice none 0 0) ∧ w' = w := by
  go_enter Tryd.func12, Tryd.ntmps12
  go_wp2
  refine wp_loop_rounds 1 ?_
  rw [rounds_succ]
  go_wp2
  go_ret
  exact ⟨rfl, rfl⟩

theorem refAll_rows (v : Value) (zss : List (List Nat)) (w : World) (h : OctRows w v zss) (hn : zss.flatten.length ≤ 100000) :
    Calls Tryd.prog 12 #[v] w fun e w' => ∃ v', e = .returned v' ∧ Octs w' v' zss.flatten ∧ Below w.heap.size w w' := by
  obtain ⟨hl, a, cap, rfl, rfl | ⟨b, off, rfl, hlt, hr⟩⟩ := h
  · refine (refAll_empty cap a w).mono ?_
    rintro e w' ⟨rfl, rfl⟩
    exact ⟨_, rfl, ⟨by simp, by simp, none, 0, rfl, by simp, by simp, .inl ⟨rfl, rfl⟩⟩, Below.refl _ _⟩
  · exact refAll_at b off cap zss w hlt hl hr hn

theorem refSeal_octs (v : Value) (zs : List Nat) (w : World) (h : Octs w v zs) (hlen : zs.length ≤ 100000) :
    Calls Tryd.prog 15 #[v] w fun e w' => e = .returned (.string (strN (zs ++ octN (crcSum zs)))) ∧ Below w.heap.size w w' := by
  obtain ⟨a, cap, rfl⟩ := h.shape
  exact refSeal_any a cap zs w h hlen
end Go.Proofs.YtbgnfipnkmfmlaaDoor
