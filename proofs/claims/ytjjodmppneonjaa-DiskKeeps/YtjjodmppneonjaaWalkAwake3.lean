/- The laws' first line: the document's example. -/
import Derived.Test.YtjjodmppneonjaaWalkLaw3
namespace Go.Proofs.Ytjjodmppneonjaa
open Go.RowKit
set_option linter.unusedVariables false

theorem str_a : strN [97, 97, 97, 97] = { data := #[97, 97, 97, 97] } := rfl
theorem str_b : strN [98, 98, 98, 98] = { data := #[98, 98, 98, 98] } := rfl
theorem str_ba : strN [98, 98, 97, 97] = { data := #[98, 98, 97, 97] } := rfl
theorem small_a : ∀ t ∈ [97, 97, 97, 97], t < 256 := by decide
theorem small_b : ∀ t ∈ [98, 98, 98, 98], t < 256 := by decide
def secA : Sec := secOf [97, 97, 97, 97] (by decide) small_a
def secB : Sec := secOf [98, 98, 98, 98] (by decide) small_b
theorem sector_a (w : World) : Calls Try.prog 15 #[.string { data := #[97, 97, 97, 97] }] w fun e w' => e = .returned (.slice (some ⟨w.heap.size, 0, none⟩) 128 128) ∧ w' = w.alloc (.cells secA.cells.toArray 5) := sector_v w [97, 97, 97, 97] (by decide) small_a
theorem sector_b (w : World) : Calls Try.prog 15 #[.string { data := #[98, 98, 98, 98] }] w fun e w' => e = .returned (.slice (some ⟨w.heap.size, 0, none⟩) 128 128) ∧ w' = w.alloc (.cells secB.cells.toArray 5) := sector_v w [98, 98, 98, 98] (by decide) small_b
def awakeSt : St := (((freshSt 2).wait 0 secA).spent.flushed.wait 0 secB).crashed [] 0 2
theorem awake_see : (awakeSt.see 0).l.take 4 = [98, 98, 97, 97] := by decide +kernel

set_option maxHeartbeats 1000000 in
theorem awake3 (w : World) : Calls Try.prog 7 #[] w fun e w' => e = .returned (.bool true) ∧ Below w.heap.size w w' := by
  go_enter Try.func7, Try.ntmps7
  go_wp2_with fail
  refine (new_v (fun k => k < w.heap.size) w 2 (by decide) (by decide) (fun k hk => hk)).mono ?_
  rintro e w1 ⟨L, rfl, hD, hb, _⟩
  have HD : Hid (IsDisk (fun k => k < w.heap.size) w1 L (freshSt 2)) := hD
  have HB : Hid (Kept (fun k => k < w.heap.size) w w1) := Kept.ofBelow hb (fun k hk => hk)
  clear hD hb
  go_wp2_with fail
  refine (sector_a _).mono ?_
  rintro e w2 ⟨rfl, rfl⟩
  go_wp2_with fail
  refine (write_new HD.out 0 secA (by decide) (by decide) (by decide) (by decide)).mono ?_
  rintro e w3 ⟨rfl, ⟨wv, hD⟩, hk⟩
  have HD3 : Hid (IsDisk (fun k => k < w.heap.size) w3 { L with wv := wv } ((freshSt 2).wait 0 secA)) := hD
  have HB3 : Hid (Kept (fun k => k < w.heap.size) w w3) := HB.out.trans hk
  clear hD hk
  go_wp2_with fail
  refine (flush_ok HD3.out (by decide)).mono ?_
  rintro e w4 ⟨rfl, hD, hk⟩
  have HD4 : Hid (IsDisk (fun k => k < w.heap.size) w4 { L with wv := .slice none 0 0 } ((freshSt 2).wait 0 secA).spent.flushed) := hD
  have HB4 : Hid (Kept (fun k => k < w.heap.size) w w4) := HB3.out.trans hk
  clear hD hk
  go_wp2_with fail
  refine (sector_b _).mono ?_
  rintro e w5 ⟨rfl, rfl⟩
  go_wp2_with fail
  refine (write_new HD4.out 0 secB (by decide) (by decide) (by decide) (by decide)).mono ?_
  rintro e w6 ⟨rfl, ⟨wv, hD⟩, hk⟩
  have HD6 : Hid (IsDisk (fun k => k < w.heap.size) w6 { L with wv := wv } (((freshSt 2).wait 0 secA).spent.flushed.wait 0 secB)) := hD
  have HB6 : Hid (Kept (fun k => k < w.heap.size) w w6) := HB4.out.trans hk
  clear hD hk
  go_wp2_with fail
  refine (crash_v HD6.out _ [] (Ints.nil _) 0 2).mono ?_
  rintro e w7 ⟨rfl, hD, hk⟩
  have HD7 : Hid (IsDisk (fun k => k < w.heap.size) w7 { L with wv := .slice none 0 0 } awakeSt) := hD
  have HB7 : Hid (Kept (fun k => k < w.heap.size) w w7) := HB6.out.trans hk
  clear hD hk
  rw [show keptTo [] (((freshSt 2).wait 0 secA).spent.flushed.wait 0 secB).waits.length = 0 from by decide +kernel]
  go_wp2_with fail
  refine (begins_v HD7.out 0 (by decide) (by decide) [98, 98, 97, 97] (by decide) awake_see).mono ?_
  rintro e w8 ⟨rfl, hD, hk⟩
  have HB8 : Hid (Kept (fun k => k < w.heap.size) w w8) := HB7.out.trans hk
  clear hD hk
  go_wp2
  go_ret
  exact ⟨rfl, HB8.out.below (fun k hk => hk)⟩
end Go.Proofs.Ytjjodmppneonjaa
