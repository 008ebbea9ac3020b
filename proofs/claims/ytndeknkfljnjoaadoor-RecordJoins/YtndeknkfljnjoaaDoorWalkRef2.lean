/- Contracts of the reference's 'Seal' and 'All'. -/
import Derived.Test.YtndeknkfljnjoaaDoorWalkSeal
namespace Go.Proofs.YtndeknkfljnjoaaDoor
open Go.RowKit
set_option linter.unusedVariables false

theorem ret_str {a b : ByteArray} (h : a = b) : Ending.returned (.string a) = .returned (.string b) := by rw [h]
theorem cells_four (s : Nat) (h : s < 4294967296) : (u8s (octN s)).toArray = #[Value.int .u8 ((s : Int) % 256), .int .u8 ((s : Int) / 256 % 256), .int .u8 ((s : Int) / 65536 % 256), .int .u8 ((s : Int) / 16777216)] := by
  have e : s / 16777216 % 256 = s / 16777216 := by omega
  simp [u8s, octN, e]
theorem conv_four (s : Nat) (w : World) (h : s < 4294967296) :
    (convert 22 9 (.slice (some ⟨w.heap.size, 0, none⟩) 4 4)).run Tryd.prog (w.alloc (.cells #[Value.int .u8 ((s : Int) % 256), .int .u8 ((s : Int) / 256 % 256), .int .u8 ((s : Int) / 65536 % 256), .int .u8 ((s : Int) / 16777216)] 5)) =
      .ok (.string (strN (octN s))) (w.alloc (.cells #[Value.int .u8 ((s : Int) % 256), .int .u8 ((s : Int) / 256 % 256), .int .u8 ((s : Int) / 65536 % 256), .int .u8 ((s : Int) / 16777216)] 5)) := by
  rw [← cells_four s h]
  exact conv_octs (octs_new w (octN s) 5 (octN_small s) (by simp [octN, maxLen])) 22 5 9 Tryd.underlying22 Tryd.underlying5 Tryd.underlying9

set_option maxHeartbeats 400000 in
theorem refSeal_any (a : Option Addr) (cap : Nat) (zs : List Nat) (w : World) (h : Octs w (.slice a zs.length cap) zs) (hlen : zs.length ≤ 100000) :
    Calls Tryd.prog 30 #[.slice a zs.length cap] w fun e w' => e = .returned (.string (strN (zs ++ octN (crcSum zs)))) ∧ Below w.heap.size w w' := by
  have HO : Hid (Octs w (.slice a zs.length cap) zs) := h
  have hs := crcSum_lt zs h.small
  have hcv := conv_octs (P := Tryd.prog) h 22 5 9 Tryd.underlying22 Tryd.underlying5 Tryd.underlying9
  clear h
  go_enter Tryd.func30, Tryd.ntmps30
  go_wp2_with fail
  refine (refSum_octs _ zs _ HO.out).mono ?_
  rintro e w1 ⟨rfl, rfl⟩
  have HA : Hid (strN zs ++ strN (octN (crcSum zs)) = strN (zs ++ octN (crcSum zs))) := strN_append _ _
  have hcv4 := conv_four (crcSum zs) w1 hs
  have hl1 := strN_size zs
  have hl2 : (strN (octN (crcSum zs))).size = 4 := strN_size _
  go_wp2
  go_ret
  exact ⟨ret_str HA.out, (Below.refl _ _).alloc (Nat.le_refl _) _⟩

theorem refSeal_octs (v : Value) (zs : List Nat) (w : World) (h : Octs w v zs) (hlen : zs.length ≤ 100000) :
    Calls Tryd.prog 30 #[v] w fun e w' => e = .returned (.string (strN (zs ++ octN (crcSum zs)))) ∧ Below w.heap.size w w' := by
  obtain ⟨a, cap, rfl⟩ := h.shape
  exact refSeal_any a cap zs w h hlen
end Go.Proofs.YtndeknkfljnjoaaDoor
