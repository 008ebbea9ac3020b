/- The walk of the law 'DiskKeeps': it returns true for every input. -/
import Derived.Test.YtjjodmppneonjaaKeepsMath
namespace Go.Proofs.Ytjjodmppneonjaa
open Go.RowKit
set_option linter.unusedVariables false

theorem write_new2 {K : Nat → Prop} {w : World} {L : Loc} {S : St} (h : IsDisk K w L S) (o : Obj) (a : Nat) (s : Sec) (ham : a < S.n) (hl : S.left ≠ 0) (hm1 : S.waits.length < 1000000000) (hm2 : S.written < 1000000000) :
    Calls Try.prog 14 #[.pointer (some ⟨L.b, 0, none⟩), .int .i64 (a : Nat), .slice (some ⟨w.heap.size + 1, 0, none⟩) 128 128] ((w.alloc o).alloc (.cells s.cells.toArray 5)) fun e w' => e = .returned (.int .i64 0) ∧ (∃ wv, IsDisk K w' { L with wv := wv } (S.wait a s)) ∧ Kept K w w' := by
  have e := World.size_alloc w o
  rw [← e]
  refine (write_new (h.alloc o) a s ham hl hm1 hm2).mono ?_
  rintro e w' ⟨rfl, h1, h2⟩
  exact ⟨rfl, h1, ((Kept.refl K w).alloc h.kl o).trans h2⟩

theorem write_newd {K : Nat → Prop} {w : World} {L : Loc} {S : St} (h : IsDisk K w L S) (a : Nat) (s : Sec) (ham : a < S.n ∧ S.left ≠ 0 ∧ S.waits.length < 1000000000 ∧ S.written < 1000000000) :
    Calls Try.prog 14 #[.pointer (some ⟨L.b, 0, none⟩), .int .i64 (a : Nat), .slice (some ⟨w.heap.size, 0, none⟩) 128 128] (w.alloc (.cells s.cells.toArray 5)).drew fun e w' => e = .returned (.int .i64 0) ∧ (∃ wv, IsDisk K w' { L with wv := wv } (S.wait a s)) ∧ Kept K w w' := by
  refine (write_new (w := w.drew) h.drew a s ham.1 ham.2.1 ham.2.2.1 ham.2.2.2).mono ?_
  rintro e w' ⟨rfl, h1, h2⟩
  exact ⟨rfl, h1, h2.undrew⟩

set_option maxRecDepth 100000 in
set_option maxHeartbeats 2000000 in
theorem keeps_main (a : Option Addr) (n cap : Nat) (zs : List Nat) (a' : Option Addr) (n' cap' : Nat) (cs : List Cr) (w : World) (h : Octs w (.slice a n cap) zs) (h' : Crashes w (.slice a' n' cap') cs) (hn : n ≤ 20) (hn' : n' ≤ 5) :
    Calls Try.prog 4 #[.slice a n cap, .slice a' n' cap'] w fun e w' => e = .returned (.bool true) ∧ Below w.heap.size w w' := by
  obtain ⟨i0, hi, hz0, hz1, hz2⟩ := info_parts Try.infoU8d
  have HO : Hid (Octs w (.slice a n cap) zs) := h
  have HC : Hid (Crashes w (.slice a' n' cap') cs) := h'
  have LN : Hid (zs.length = n ∧ cs.length = n') := ⟨h.lenEq, h'.lenEq⟩
  have hns : ¬ (20 : Int) < n := by omega
  have hns' : ¬ (5 : Int) < n' := by omega
  clear h h'
  go_enter Try.func4, Try.ntmps4
  go_wp2_with fail
  refine (awake3 _).mono ?_
  rintro e w1 ⟨rfl, hb1⟩
  have HB1 : Hid (Below w.heap.size w w1) := hb1
  have hs1 : w.heap.size ≤ w1.heap.size := hb1.size
  clear hb1
  go_wp2_with fail
  refine (new_v (fun k => k < w.heap.size) w1 8 (by decide) (by decide) (fun k hk => by omega)).mono ?_
  rintro e w2 ⟨L, rfl, hD, hb2, _⟩
  have HD2 : Hid (IsDisk (fun k => k < w.heap.size) w2 L (keepSt 0)) := hD
  have HB2 : Hid (Kept (fun k => k < w.heap.size) w w2) := (Kept.ofBelow HB1.out (fun k hk => hk)).trans (Kept.ofBelow hb2 (fun k hk => by omega))
  clear hD hb2
  go_wp2_with fail
  go_loopw [7] (fun i wr => ∃ j : Nat, j ≤ 8 ∧ i = .int .i64 j ∧ (∃ wv, IsDisk (fun k => k < w.heap.size) wr { L with wv := wv } (keepSt j)) ∧ Kept (fun k => k < w.heap.size) w wr) (fun i _ => 8 - (intOf i).toNat)
  case atStart => exact ⟨0, by omega, rfl, ⟨L.wv, HD2.out⟩, HB2.out⟩
  case round =>
    obtain ⟨j, hj, rfl, ⟨wv, hD⟩, hkp⟩ := hrel
    have HD : Hid (IsDisk (fun k => k < w.heap.size) wr { L with wv := wv } (keepSt j)) := hD
    have HKP : Hid (Kept (fun k => k < w.heap.size) w wr) := hkp
    clear hD hkp
    by_cases hlt : j < 8
    · have w1' : IntKind.u8.wrap (j : Int) = (j : Int) := by rw [IntKind.wrap_u8]; omega
      have hcv := conv_7 hlt (heap_alloc_last wr (.cells #[.int .u8 7, .int .u8 (j : Nat)] 5))
      have HSV : Hid (∀ w', Calls Try.prog 15 #[.string (strN [7, j % 256])] w' fun e w'' => e = .returned (.slice (some ⟨w'.heap.size, 0, none⟩) 128 128) ∧ w'' = w'.alloc (.cells (sec7 j).cells.toArray 5)) := fun w' => sector_7 w' j
      obtain ⟨bs, hbs⟩ : ∃ bs, strN [7, j % 256] = bs := ⟨_, rfl⟩
      rw [hbs] at hcv HSV
      clear hbs
      go_wp2_with fail
      refine (HSV.out _).mono ?_
      rintro e w3 ⟨rfl, rfl⟩
      go_wp2_with fail
      refine (write_new2 HD.out (.cells #[.int .u8 7, .int .u8 (j : Nat)] 5) j (sec7 j) hlt (by show (-1 : Int) ≠ 0; decide) (by show ((List.range j).map _).length < _; rw [List.length_map, List.length_range]; omega) (by show j < _; omega)).mono ?_
      rintro e w4 ⟨rfl, ⟨wv4, hD4⟩, hk4⟩
      rw [keep_on] at hD4
      have HD4 : Hid (IsDisk (fun k => k < w.heap.size) w4 { L with wv := wv4 } (keepSt (j + 1))) := hD4
      have HK4 : Hid (Kept (fun k => k < w.heap.size) w w4) := HKP.out.trans hk4
      clear hD4 hk4 hcv HSV
      go_wp2
      go_roundw
      case rel => exact ⟨j + 1, by omega, by simp, ⟨wv4, HD4.out⟩, HK4.out⟩
      case measure => simp [intOf]; omega
    · have e8 : j = 8 := by omega
      rw [e8] at HD
      clear e8
      have hz42 := Try.zeroTurn
      have HT0 : Hid (∀ w' : World, (w'.alloc (.cells (turnA fun _ => false) 42)).heap[w'.heap.size]? = some (.cells (turnA fun _ => false) 42 (0, 0))) := fun w' => heap_alloc_last w' _
      obtain ⟨Z, hZ⟩ : ∃ Z, Z = turnA fun _ => false := ⟨_, rfl⟩
      have HZ : Hid (Z = turnA fun _ => false) := hZ
      rw [← hZ] at hz42 HT0
      clear hZ
      go_wp2_with fail
      refine (flush_ok HD.out (by show (-1 : Int) ≠ 0; decide)).mono ?_
      rintro e w3 ⟨rfl, hD3, hk3⟩
      have HD3 : Hid (IsDisk (fun k => k < w.heap.size) w3 { L with wv := .slice none 0 0 } (keepSt 8).spent.flushed) := hD3
      have HK3 : Hid (Kept (fun k => k < w.heap.size) w w3) := HKP.out.trans hk3
      have hs3 : w.heap.size ≤ w3.heap.size := HK3.out.size
      obtain ⟨X, hX⟩ : ∃ X, X = w3.heap.size := ⟨_, rfl⟩
      have HX : Hid (X = w3.heap.size) := hX
      clear hD3 hk3
      have HD5 : Hid (IsDisk (fun k => k < w.heap.size ∨ k = X) (w3.alloc (.cells Z 42)) { L with wv := .slice none 0 0 } (keepSt 8).spent.flushed) := by
        refine (HD3.out.alloc _).turnK ?_ ?_
        · rintro k hf (hk | hk)
          · exact HD3.out.nK k hf hk
          · have := HD3.out.lt k hf; omega
        · rintro k (hk | hk)
          · simp; omega
          · simp; omega
      have HK5 : Hid (Kept (fun k => k < w.heap.size) w (w3.alloc (.cells Z 42))) := HK3.out.alloc HD3.out.kl _
      have hT5 := HT0.out w3
      rw [← hX] at hT5
      have HT5 : Hid ((w3.alloc (.cells Z 42)).heap[X]? = some (.cells (turnA fun _ => false) 42 (0, 0))) := by rw [HZ.out] at hT5 ⊢; exact hT5
      have hwX : w.heap.size ≤ X := by omega
      clear hT5
      go_wp2_with fail
      rw [← hX]
      clear hX
      go_loopw [9] (fun i wr => ∃ (j : Nat) (T : Nat → Bool), j ≤ n ∧ i = .int .i64 j ∧ wr.heap[X]? = some (.cells (turnA T) 42 (0, 0)) ∧ (∃ wv S, IsDisk (fun k => k < w.heap.size ∨ k = X) wr { L with wv := wv } S ∧ Keeps T j S) ∧ Kept (fun k => k < w.heap.size) w wr) (fun i _ => n - (intOf i).toNat)
      case atStart => exact ⟨0, _, by omega, rfl, HT5.out, ⟨_, _, HD5.out, Keeps.first⟩, HK5.out⟩
      case round =>
        clear HD HKP HD5 HK5 HT5 HD3 HK3 HT0 hz42 hlt hj
        obtain ⟨j, T, hj, rfl, hX, ⟨wv, S, hD, hS⟩, hkp⟩ := hrel
        have HX : Hid (wr.heap[X]? = some (.cells (turnA T) 42 (0, 0))) := hX
        have HD : Hid (IsDisk (fun k => k < w.heap.size ∨ k = X) wr { L with wv := wv } S) := hD
        have HS : Hid (Keeps T j S) := hS
        have HKP : Hid (Kept (fun k => k < w.heap.size) w wr) := hkp
        clear hX hD hS hkp
        by_cases hlt : j < n
        · obtain ⟨b, off, rfl, hb, hat⟩ := HO.out.addr (by omega)
          have hjz : j < zs.length := by have := LN.out.1; omega
          obtain ⟨z, hz⟩ : ∃ z, z = zs[j]?.getD 0 := ⟨_, rfl⟩
          have hz256 : z < 256 := by
            rw [hz, List.getElem?_eq_getElem hjz]
            exact HO.out.small _ (List.getElem_mem hjz)
          have hat' : w.cell? ⟨b, off + j, none⟩ = some (.int .u8 (z : Nat)) := by rw [hz]; exact hat j hjz
          have hc : wr.cell? ⟨b, off + j, none⟩ = some (.int .u8 (z : Nat)) := (HKP.out.cell (p := ⟨b, off + j, none⟩) hb).trans hat'
          have hbX : b ≠ X := by omega
          obtain ⟨q, hq⟩ : ∃ q, q = z % 8 := ⟨_, rfl⟩
          have hq8 : q < 8 := by omega
          have e1 : (z : Int).tmod 8 = (q : Int) := by rw [Int.tmod_eq_emod_of_nonneg (by omega)]; omega
          have e2 : (z : Int) % 8 = (q : Int) := by omega
          have hcX : wr.cell? ⟨X, q, none⟩ = some (.bool (T q)) := by rw [cell_of_row _ _ _ _ _ _ HX.out]; exact turnA_get T q hq8
          have hfX : wr.frozen? ⟨X, q, none⟩ = false := by simp [World.frozen?, show wr.heap[X]? = _ from HX.out]
          have HX5 : Hid ((wr.setCell ⟨X, q, none⟩ (.bool true)).heap[X]? = some (.cells (turnA fun k => T k || decide (k = q)) 42 (0, 0))) := by
            have := heap_set_row HX.out q (.bool true)
            rw [turnA_set T q hq8] at this
            exact this
          have HD5 : Hid (IsDisk (fun k => k < w.heap.size ∨ k = X) (wr.setCell ⟨X, q, none⟩ (.bool true)) { L with wv := wv } S) := HD.out.beside (p := ⟨X, q, none⟩) (.inr rfl) _
          have HK5 : Hid (Kept (fun k => k < w.heap.size) w (wr.setCell ⟨X, q, none⟩ (.bool true))) := HKP.out.setCell (p := ⟨X, q, none⟩) (by show ¬ X < w.heap.size; omega) _
          have HC5 : Hid ((wr.setCell ⟨X, q, none⟩ (.bool true)).cell? ⟨b, off + j, none⟩ = some (.int .u8 (z : Nat))) := (cell_other _ _ _ _ (by show b ≠ X; exact hbX)).trans hc
          have k1 : (0 : Int) ≤ (j : Int) := by omega
          have k2 : (j : Int) < (n : Int) := by omega
          have k3 : (0 : Int) ≤ (q : Int) := by omega
          have k4 : (q : Int) < 8 := by omega
          clear hz hat hat' hq
          go_wp2_with fail
          obtain ⟨W5, hW5⟩ : ∃ W5, wr.setCell ⟨X, q, none⟩ (.bool true) = W5 := ⟨_, rfl⟩
          rw [hW5] at HX5 HD5 HK5 HC5 ⊢
          clear hW5 hcX hfX hc HX HD HKP
          have HSX : Hid (∀ w', Calls Try.prog 15 #[.string { data := #[120] }] w' fun e w'' => e = .returned (.slice (some ⟨w'.heap.size, 0, none⟩) 128 128) ∧ w'' = w'.alloc (.cells secX.cells.toArray 5)) := fun w' => sector_x w'
          obtain ⟨sx, hsx⟩ : ∃ sx, secX = sx := ⟨_, rfl⟩
          rw [hsx] at HSX
          clear hsx
          have HC6 : Hid ((W5.alloc (.cells sx.cells.toArray 5)).drew.cell? ⟨b, off + j, none⟩ = some (.int .u8 (z : Nat))) := by
            show (W5.alloc (.cells sx.cells.toArray 5)).cell? _ = _
            rw [World.cell?_alloc_lt _ _ _ (by have := HK5.out.size; show b < W5.heap.size; omega)]
            exact HC5.out
          have e3 : IntKind.i64.wrap (q : Int) = (q : Int) := by rw [IntKind.wrap_i64]; omega
          have HW6 : Hid (q < S.n ∧ S.left ≠ 0 ∧ S.waits.length < 1000000000 ∧ S.written < 1000000000) := by
            refine ⟨by rw [HS.out.n]; exact hq8, by rw [HS.out.left]; decide, ?_, ?_⟩
            · have := HS.out.many; omega
            · have := HS.out.wr; omega
          go_region_held3 (fun w' : World => w'.cell? ⟨b, off + j, none⟩ = some (.int .u8 (z : Nat))) (first | exact HC5.out | exact HC6.out | exact (hk7.cell (p := ⟨b, off + j, none⟩) (Or.inl hb)).trans HC5.out) (first
            | (go_at_call 15; refine (HSX.out _).mono ?_; rintro e w6 ⟨rfl, rfl⟩)
            | (go_at_call 14; refine (write_newd HD5.out q sx HW6.out).mono ?_; rintro e w7 ⟨rfl, ⟨wv7, hD7⟩, hk7⟩))
          have HD7 : Hid (IsDisk (fun k => k < w.heap.size ∨ k = X) w7 { L with wv := wv7 } (S.wait q sx)) := hD7
          have HX7 : Hid (w7.heap[X]? = some (.cells (turnA fun k => T k || decide (k = q)) 42 (0, 0))) := (hk7.block X (.inr rfl)).trans HX5.out
          have HK7 : Hid (Kept (fun k => k < w.heap.size) w w7) := HK5.out.trans (hk7.mono fun k hk => .inl hk)
          have HS7 : Hid (Keeps (fun k => T k || decide (k = q)) (j + 1) (S.wait q sx)) := HS.out.waits q sx
          clear hD7 hk7
          go_wp2
          go_roundw
          case rel => exact ⟨j + 1, _, by omega, by simp, HX7.out, ⟨_, _, HD7.out, HS7.out⟩, HK7.out⟩
          case measure => simp [intOf]; omega
        · go_wp2_with fail
          go_loopw [10] (fun i wr => ∃ (j : Nat), j ≤ n' ∧ i = .int .i64 j ∧ wr.heap[X]? = some (.cells (turnA T) 42 (0, 0)) ∧ (∃ wv S, IsDisk (fun k => k < w.heap.size ∨ k = X) wr { L with wv := wv } S ∧ Keeps T 20 S) ∧ Kept (fun k => k < w.heap.size) w wr) (fun i _ => n' - (intOf i).toNat)
          case atStart => exact ⟨0, by omega, rfl, HX.out, ⟨_, _, HD.out, HS.out.more (by omega)⟩, HKP.out⟩
          case round =>
            clear HX HD HS HKP hlt hj
            obtain ⟨j, hj, rfl, hX, ⟨wv, S, hD, hS⟩, hkp⟩ := hrel
            have HX : Hid (wr.heap[X]? = some (.cells (turnA T) 42 (0, 0))) := hX
            have HD : Hid (IsDisk (fun k => k < w.heap.size ∨ k = X) wr { L with wv := wv } S) := hD
            have HS : Hid (Keeps T 20 S) := hS
            have HKP : Hid (Kept (fun k => k < w.heap.size) w wr) := hkp
            clear hX hD hS hkp
            by_cases hlt : j < n'
            · obtain ⟨b', off', rfl, hb', hat⟩ := HC.out.addr (by omega)
              have hjz : j < cs.length := by have := LN.out.2; omega
              obtain ⟨c, hc⟩ : ∃ c, cs[j]? = some c := ⟨_, List.getElem?_eq_getElem hjz⟩
              obtain ⟨hra, hint⟩ := hat j c hc
              have hr1 := rangeAt_same hra (HKP.out.block b' hb')
              have hint1 : Ints wr c.kv c.zs := hint.kept (HKP.out.below fun k hk => hk)
              obtain ⟨hl0, a9, cap9, ekv, _⟩ := hint
              have hc0 : wr.cell? ⟨b', off' + j * 3, none⟩ = some (.slice a9 c.zs.length cap9) := by rw [← ekv]; exact hr1 0 _ rfl
              have HI : Hid (Ints wr (.slice a9 c.zs.length cap9) c.zs) := by rw [← ekv]; exact hint1
              have HR : Hid (wr.rangeAt b' (off' + j * 3) [.slice a9 c.zs.length cap9, .int .i64 c.torn, .int .i64 c.cut]) := by rw [← ekv]; exact hr1
              obtain ⟨m, hm⟩ : ∃ m, m = c.zs.length := ⟨_, rfl⟩
              rw [← hm] at hc0 HI HR hl0
              obtain ⟨tn, htn⟩ : ∃ tn, tn = c.torn := ⟨_, rfl⟩
              obtain ⟨ct, hct⟩ : ∃ ct, ct = c.cut := ⟨_, rfl⟩
              rw [← htn, ← hct] at HR
              obtain ⟨ks, hks⟩ : ∃ ks, ks = c.zs := ⟨_, rfl⟩
              rw [← hks] at HI
              have hc1 : wr.cell? ⟨b', off' + j * 3 + 1, none⟩ = some (.int .i64 tn) := HR.out 1 _ rfl
              have hc2 : wr.cell? ⟨b', off' + j * 3 + 2, none⟩ = some (.int .i64 ct) := HR.out 2 _ rfl
              clear hat hc hra hr1 hint1 ekv hm htn hct hks
              have k1 : (0 : Int) ≤ (j : Int) := by omega
              have k2 : (j : Int) < (n' : Int) := by omega
              by_cases h60 : m ≤ 60
              · have h60' : ¬ (60 : Int) < m := by omega
                go_wp2_with fail
                refine (crash_v HD.out (.slice a9 m cap9) ks HI.out tn ct).mono ?_
                rintro e w5 ⟨rfl, hD5, hk5⟩
                have HD5 : Hid (IsDisk (fun k => k < w.heap.size ∨ k = X) w5 { L with wv := .slice none 0 0 } (S.crashed ks tn ct)) := hD5
                have HX5 : Hid (w5.heap[X]? = some (.cells (turnA T) 42 (0, 0))) := (hk5.block X (.inr rfl)).trans HX.out
                have HK5 : Hid (Kept (fun k => k < w.heap.size) w w5) := HKP.out.trans (hk5.mono fun k hk => .inl hk)
                clear hD5 hk5
                go_wp2
                go_roundw
                case rel => exact ⟨j + 1, by omega, by simp, HX5.out, ⟨_, _, HD5.out, HS.out.crashed ks tn ct⟩, HK5.out⟩
                case measure => simp [intOf]; omega
              · have h60' : (60 : Int) < m := by omega
                go_wp2
                go_ret
                exact ⟨rfl, HKP.out.below fun k hk => hk⟩
            · go_wp2_with fail
              go_loopw [11] (fun i wr => ∃ (j : Nat), j ≤ 8 ∧ i = .int .i64 j ∧ wr.heap[X]? = some (.cells (turnA T) 42 (0, 0)) ∧ (∃ wv S, IsDisk (fun k => k < w.heap.size ∨ k = X) wr { L with wv := wv } S ∧ Keeps T 20 S) ∧ Kept (fun k => k < w.heap.size) w wr) (fun i _ => 8 - (intOf i).toNat)
              case atStart => exact ⟨0, by omega, rfl, HX.out, ⟨_, _, HD.out, HS.out⟩, HKP.out⟩
              case round =>
                clear HX HD HS HKP hlt hj
                obtain ⟨j, hj, rfl, hX, ⟨wv, S, hD, hS⟩, hkp⟩ := hrel
                have HX : Hid (wr.heap[X]? = some (.cells (turnA T) 42 (0, 0))) := hX
                have HD : Hid (IsDisk (fun k => k < w.heap.size ∨ k = X) wr { L with wv := wv } S) := hD
                have HS : Hid (Keeps T 20 S) := hS
                have HKP : Hid (Kept (fun k => k < w.heap.size) w wr) := hkp
                clear hX hD hS hkp
                by_cases hlt : j < 8
                · have k1 : (0 : Int) ≤ (j : Int) := by omega
                  have k2 : (j : Int) < 8 := by omega
                  have hcX : wr.cell? ⟨X, j, none⟩ = some (.bool (T j)) := by rw [cell_of_row _ _ _ _ _ _ HX.out]; exact turnA_get T j hlt
                  cases hT : T j with
                  | true =>
                    rw [hT] at hcX
                    clear hT
                    go_wp2
                    go_roundw
                    case rel => exact ⟨j + 1, by omega, by simp, HX.out, ⟨_, _, HD.out, HS.out⟩, HKP.out⟩
                    case measure => simp [intOf]; omega
                  | false =>
                    rw [hT] at hcX
                    have HSE : Hid (S.see j = sec7 j) := HS.out.sees hlt hT
                    clear hT
                    have w1' : IntKind.u8.wrap (j : Int) = (j : Int) := by rw [IntKind.wrap_u8]; omega
                    have hcv := conv_7 hlt (heap_alloc_last wr (.cells #[.int .u8 7, .int .u8 (j : Nat)] 5))
                    have HBG : Hid (Calls Try.prog 17 #[.pointer (some ⟨L.b, 0, none⟩), .int .i64 (j : Nat), .string (strN [7, j % 256])] (wr.alloc (.cells #[.int .u8 7, .int .u8 (j : Nat)] 5)) fun e w' => e = .returned (.bool true) ∧ IsDisk (fun k => k < w.heap.size ∨ k = X) w' { L with wv := wv } S.spent ∧ Kept (fun k => k < w.heap.size ∨ k = X) (wr.alloc (.cells #[.int .u8 7, .int .u8 (j : Nat)] 5)) w') :=
                      begins_v (HD.out.alloc _) j (by rw [HS.out.n]; exact hlt) (by rw [HS.out.left]; decide) [7, j % 256] (by simp) (by rw [HSE.out]; exact sec7_takes j)
                    obtain ⟨bs, hbs⟩ : ∃ bs, strN [7, j % 256] = bs := ⟨_, rfl⟩
                    rw [hbs] at hcv HBG
                    clear hbs
                    go_wp2_with fail
                    refine Calls.mono HBG ?_
                    rintro e w5 ⟨rfl, hD5, hk5⟩
                    have HD5 : Hid (IsDisk (fun k => k < w.heap.size ∨ k = X) w5 { L with wv := wv } S.spent) := hD5
                    have HX5 : Hid (w5.heap[X]? = some (.cells (turnA T) 42 (0, 0))) := (hk5.block X (.inr rfl)).trans ((Below.heap_alloc wr _ X (HD.out.kl X (.inr rfl))).trans HX.out)
                    have HK5 : Hid (Kept (fun k => k < w.heap.size) w w5) := (HKP.out.alloc (fun k hk => HD.out.kl k (.inl hk)) _).trans (hk5.mono fun k hk => .inl hk)
                    clear hD5 hk5 hcv HBG
                    go_wp2
                    go_roundw
                    case rel => exact ⟨j + 1, by omega, by simp, HX5.out, ⟨_, _, HD5.out, HS.out.spent⟩, HK5.out⟩
                    case measure => simp [intOf]; omega
                · go_wp2
                  go_ret
                  exact ⟨rfl, HKP.out.below fun k hk => hk⟩
end Go.Proofs.Ytjjodmppneonjaa
