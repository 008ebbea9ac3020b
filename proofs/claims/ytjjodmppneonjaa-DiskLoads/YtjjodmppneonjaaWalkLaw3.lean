/- Contracts of the laws' own small functions over a disk, and of 'Write' where it is refused. -/
import Derived.Test.YtjjodmppneonjaaWalkWrite
import Derived.Lib.BufferWrite
namespace Go.Proofs.Ytjjodmppneonjaa
open Go.RowKit
set_option linter.unusedVariables false

/-! ### 'Write' and 'Load' where they are refused -/
set_option maxHeartbeats 1000000 in
theorem write_off {K : Nat → Prop} {w : World} {L : Loc} {S : St} (h : IsDisk K w L S) (a : Nat) (x : Option Addr) (cap : Nat) (ham : a + 1 ≤ S.n) (hl : S.left = 0) :
    Calls Try.prog 14 #[.pointer (some ⟨L.b, 0, none⟩), .int .i64 (a : Nat), .slice x 128 cap] w fun e w' => e = .returned (.int .i64 10) ∧ IsDisk K w' L S.spent ∧ Kept K w w' := by
  have H : Hid (IsDisk K w L S) := h
  have HK : Hid (Kept K w ((w.alloc (.cells #[.pointer (some ⟨L.b, 0, none⟩)] 24)).alloc (.cells #[.int .i64 (a : Nat)] 3))) := by
    refine ((Kept.refl K w).alloc h.kl _).alloc ?_ _
    intro k hk; have := h.kl k hk; simp; omega
  clear h
  go_enter Try.func14, Try.ntmps14
  go_wp2_with fail
  refine (has_v ((H.out.alloc _).alloc _) _ _).mono ?_
  rintro e w1 ⟨rfl, rfl⟩
  rw [show hasN S.n (a : Nat) 1 = true from hasN_ok (m := 1) ham]
  go_wp2_with fail
  refine (spend_v ((H.out.alloc _).alloc _)).mono ?_
  rintro e w2 ⟨rfl, h2, k2⟩
  rw [decide_eq_false (fun h => h hl)]
  have H2 : Hid (IsDisk K w2 L S.spent) := h2
  have K2 : Hid (Kept K w w2) := HK.out.trans k2
  clear h2 k2
  go_wp2
  go_ret
  exact ⟨rfl, H2.out, K2.out⟩
set_option maxHeartbeats 1000000 in
theorem write_arg {K : Nat → Prop} {w : World} {L : Loc} {S : St} (h : IsDisk K w L S) (a : Nat) (x : Option Addr) (cap : Nat) (ham : S.n < a + 1) :
    Calls Try.prog 14 #[.pointer (some ⟨L.b, 0, none⟩), .int .i64 (a : Nat), .slice x 128 cap] w fun e w' => e = .returned (.int .i64 2) ∧ IsDisk K w' L S ∧ Kept K w w' := by
  have H : Hid (IsDisk K w L S) := h
  have HK : Hid (Kept K w ((w.alloc (.cells #[.pointer (some ⟨L.b, 0, none⟩)] 24)).alloc (.cells #[.int .i64 (a : Nat)] 3))) := by
    refine ((Kept.refl K w).alloc h.kl _).alloc ?_ _
    intro k hk; have := h.kl k hk; simp; omega
  clear h
  go_enter Try.func14, Try.ntmps14
  go_wp2_with fail
  refine (has_v ((H.out.alloc _).alloc _) _ _).mono ?_
  rintro e w1 ⟨rfl, rfl⟩
  rw [show hasN S.n (a : Nat) 1 = false from decide_eq_false (by omega)]
  go_wp2
  go_ret
  exact ⟨rfl, (H.out.alloc _).alloc _, HK.out⟩

theorem load_odd (w : World) (x : Option Addr) (n cap : Nat) (hn : n % 128 ≠ 0) (h63 : n ≤ 9223372036854775807) :
    Calls Try.prog 8 #[.slice x n cap] w fun e w' => e = .returned (.tuple #[.pointer none, .int .i64 2]) ∧ w' = w := by
  have e1 : ¬ (n : Int) % 128 = 0 := by omega
  go_enter Try.func8, Try.ntmps8
  go_wp2
  go_ret2
  exact ⟨rfl, rfl⟩
theorem load_none (w : World) (x : Option Addr) (cap : Nat) :
    Calls Try.prog 8 #[.slice x 0 cap] w fun e w' => e = .returned (.tuple #[.pointer none, .int .i64 2]) ∧ Below w.heap.size w w' := by
  go_enter Try.func8, Try.ntmps8
  go_wp2_with fail
  refine (new_bad w 0 (by omega)).mono ?_
  rintro e w1 ⟨rfl, rfl⟩
  go_wp2
  go_ret2
  exact ⟨rfl, (Below.refl _ _).alloc (Nat.le_refl _) _⟩

/-! ### 'sector' -/
/-- A sector that begins so. -/
def secOf (ts : List Nat) (hl : ts.length ≤ 128) (ho : ∀ t ∈ ts, t < 256) : Sec := ⟨ts ++ List.replicate (128 - ts.length) 0, by simp; omega, fun x hx => by
  rcases List.mem_append.1 hx with h | h
  · exact ho x h
  · rw [List.eq_of_mem_replicate h]; decide⟩
theorem strN_bytes (ts : List Nat) (ho : ∀ t ∈ ts, t < 256) : (strN ts).data.toList.map (fun b => Value.int .u8 (b.toNat : Int)) = u8s ts := by
  simp only [strN, strOfNums, u8s, List.map_map]
  apply List.map_congr_left
  intro z hz
  have := ho z hz
  simp; omega
theorem made_list : (madeCells (Value.int .u8 0).cells 128).toList = List.replicate 128 (Value.int .u8 0) := by kernel_rfl
set_option maxHeartbeats 1000000 in
theorem sector_v (w : World) (ts : List Nat) (hl : ts.length ≤ 128) (ho : ∀ t ∈ ts, t < 256) :
    Calls Try.prog 15 #[.string (strN ts)] w fun e w' => e = .returned (.slice (some ⟨w.heap.size, 0, none⟩) 128 128) ∧ w' = w.alloc (.cells (secOf ts hl ho).cells.toArray 5) := by
  obtain ⟨i0, hi, hz0, hz1, hz2⟩ := info_parts Try.infoU8d
  have hrun := Lib.run_copy_row_string (P := Try.prog) (w.alloc (.cells (madeCells (Value.int .u8 0).cells 128) 5)) 22 9 3 5 w.heap.size 0 128 128 (strN ts) _ 5 Try.underlying22 Try.sizeU8 (heap_alloc_last w _) (by rw [strN_size]; exact hl) (by rw [strN_size, size_madeCells]; omega)
  have e : (List.take 0 (madeCells (Value.int .u8 0).cells 128).toList ++ Lib.byteCells (strN ts).data.toList ++ List.drop (0 + (strN ts).size) (madeCells (Value.int .u8 0).cells 128).toList) = (secOf ts hl ho).cells := by
    have e1 : Lib.byteCells (strN ts).data.toList = u8s ts := strN_bytes ts ho
    rw [e1, strN_size]
    have e2 : (madeCells (Value.int .u8 0).cells 128).toList = List.replicate 128 (Value.int .u8 0) := made_list
    rw [e2, List.take_zero, List.nil_append, Nat.zero_add, List.drop_replicate]
    simp [secOf, Sec.cells, u8s]
  rw [e, World.setRow_alloc_new] at hrun
  clear e
  obtain ⟨c, hc⟩ : ∃ c, (secOf ts hl ho).cells.toArray = c := ⟨_, rfl⟩
  rw [hc] at hrun ⊢
  obtain ⟨bs, hbs⟩ : ∃ bs, strN ts = bs := ⟨_, rfl⟩
  rw [hbs] at hrun ⊢
  clear hc hbs hl ho
  have hrun' : (Builtin.copy_ #[22, 9] 3 #[.slice (some ⟨w.heap.size, 0, none⟩) 128 128, .string bs]).run Try.prog (w.alloc (.cells (madeCells #[.int .u8 0] 128) 5)) = .ok (goInt bs.size) (w.alloc (.cells c 5)) := hrun
  clear hrun
  go_enter Try.func15, Try.ntmps15
  go_wp2_with (at_make; refine wpList_make_exact _ rfl _ _ 22 rfl 5 i0 _ Try.underlying22 hi hz0 hz1 .i64 .i64 128 rfl rfl ?c1 ?c2 ?_)
  case c1 => rw [hz2]; decide
  case c2 => unfold maxLen; decide
  go_wp2
  go_ret
  exact ⟨rfl, rfl⟩

/-! ### 'Write' of one sector; 'begins' -/
def St.wait (S : St) (a : Nat) (s : Sec) : St := { S.spent with waits := S.waits ++ [(a, s)], written := S.written + 1 }
theorem octs_u8 (w : World) (s : Sec) (t : TypeId) : Octs (w.alloc (.cells s.cells.toArray t)) (.slice (some ⟨w.heap.size, 0, none⟩) 128 128) s.l := octs_sec w s t
theorem xs_one (s : Sec) : valW (xsTo s.l 1 1) = [(0, s)] := by
  have e : secAt s.l 0 = s := Sec.ext (by
    rw [secAt_l (by rw [s.len]; decide) s.oct]
    simp
    rw [← s.len, List.take_length])
  rw [show (1 : Nat) = 0 + 1 from rfl, xsTo_succ s.l (by omega), valW_snoc]
  simp [xsTo, valW, e]
/-- 'd.Write(a, b)', b a slice of one sector in a block that is kept. -/
theorem write_one {K : Nat → Prop} {w : World} {L : Loc} {S : St} (h : IsDisk K w L S) (a : Nat) (s : Sec) (x cap : Nat) (hv : Octs w (.slice (some ⟨x, 0, none⟩) 128 cap) s.l) (hK : K x) (ham : a < S.n) (hl : S.left ≠ 0) (hm1 : S.waits.length < 1000000000) (hm2 : S.written < 1000000000) :
    Calls Try.prog 14 #[.pointer (some ⟨L.b, 0, none⟩), .int .i64 (a : Nat), .slice (some ⟨x, 0, none⟩) 128 cap] w fun e w' => e = .returned (.int .i64 0) ∧ (∃ wv, IsDisk K w' { L with wv := wv } (S.wait a s)) ∧ Kept K w w' := by
  refine (write_ok h a 1 _ s.l hv (fun y n c e => ?_) (by rw [s.len]) (by decide) (by omega) hl (by omega) (by omega)).mono ?_
  · simp only [Value.slice.injEq, Option.some.injEq] at e
    rw [← e.1]; exact hK
  · rintro e w' ⟨rfl, h1, h2⟩
    rw [xs_one] at h1
    refine ⟨rfl, ?_, h2⟩
    obtain ⟨wv, h1⟩ := h1
    refine ⟨wv, ?_⟩
    have e : wroteSt S.spent a [(0, s)] = S.wait a s := by simp [wroteSt, St.wait, St.spent]
    rw [← e]; exact h1
/-- 'd.Write(a, sector(..))': the slice was just laid. -/
theorem write_new {K : Nat → Prop} {w : World} {L : Loc} {S : St} (h : IsDisk K w L S) (a : Nat) (s : Sec) (ham : a < S.n) (hl : S.left ≠ 0) (hm1 : S.waits.length < 1000000000) (hm2 : S.written < 1000000000) :
    Calls Try.prog 14 #[.pointer (some ⟨L.b, 0, none⟩), .int .i64 (a : Nat), .slice (some ⟨w.heap.size, 0, none⟩) 128 128] (w.alloc (.cells s.cells.toArray 5)) fun e w' => e = .returned (.int .i64 0) ∧ (∃ wv, IsDisk K w' { L with wv := wv } (S.wait a s)) ∧ Kept K w w' := by
  have h' : IsDisk (fun k => K k ∨ k = w.heap.size) (w.alloc (.cells s.cells.toArray 5)) L S := by
    refine (h.alloc _).turnK ?_ ?_
    · rintro k hf (hk | rfl)
      · exact h.nK k hf hk
      · have := h.lt _ hf; omega
    · rintro k (hk | rfl)
      · have := h.kl k hk; simp; omega
      · simp
  refine (write_one h' a s w.heap.size 128 (octs_u8 w s _) (.inr rfl) ham hl hm1 hm2).mono ?_
  rintro e w' ⟨rfl, ⟨wv, h1⟩, h2⟩
  refine ⟨rfl, ⟨wv, h1.less (fun k hk => .inl hk)⟩, ((Kept.refl K w).alloc h.kl _).trans (h2.mono (fun k hk => .inl hk))⟩

theorem Octs.first {w : World} {b off n cap m : Nat} {zs : List Nat} (h : Octs w (.slice (some ⟨b, off, none⟩) n cap) zs) (hm : m ≤ n) (h0 : 0 < n) : Octs w (.slice (some ⟨b, off, none⟩) m cap) (zs.take m) := by
  have hl := h.lenEq
  obtain ⟨b', off', e, hlt, hc⟩ := h.addr h0
  simp only [Option.some.injEq, Addr.mk.injEq, and_true] at e
  obtain ⟨rfl, rfl⟩ := e
  obtain ⟨h1, h2, a', cap', e, h3, h4, h5⟩ := h
  simp only [Value.slice.injEq] at e
  obtain ⟨_, _, rfl⟩ := e
  have hl' : (zs.take m).length = m := by rw [List.length_take]; omega
  refine ⟨fun z hz => h1 z (List.mem_of_mem_take hz), by omega, _, cap, by rw [hl'], by omega, h4, .inr ⟨_, rfl, .inr ⟨b, off, rfl, hlt, ?_⟩⟩⟩
  intro j hj
  rw [hl'] at hj
  rw [List.getElem?_take_of_lt hj]
  exact hc j (by omega)

theorem secsN_one (f : Nat → Sec) (a : Nat) : secsN f a 1 = (f a).l := by
  rw [show (1 : Nat) = 0 + 1 from rfl, secsN_succ]
  simp [secsN]

set_option maxHeartbeats 1000000 in
theorem begins_v {K : Nat → Prop} {w : World} {L : Loc} {S : St} (h : IsDisk K w L S) (a : Nat) (ham : a < S.n) (hl : S.left ≠ 0) (ts : List Nat) (hts : ts.length ≤ 128) (ht : (S.see a).l.take ts.length = ts) :
    Calls Try.prog 17 #[.pointer (some ⟨L.b, 0, none⟩), .int .i64 (a : Nat), .string (strN ts)] w fun e w' => e = .returned (.bool true) ∧ IsDisk K w' L S.spent ∧ Kept K w w' := by
  have HT : Hid ((S.see a).l.take ts.length = ts) := ht
  clear ht
  have H : Hid (IsDisk K w L S) := h
  clear h
  have hsz : (strN ts).size = ts.length := strN_size ts
  obtain ⟨bs, hbs⟩ : ∃ bs, strN ts = bs := ⟨_, rfl⟩
  have HBS : Hid (strN ts = bs) := hbs
  obtain ⟨n, hn⟩ : ∃ n, ts.length = n := ⟨_, rfl⟩
  have HN : Hid (ts.length = n) := hn
  rw [hbs, hn] at hsz
  rw [hn] at hts
  rw [hbs]
  clear hbs hn
  go_enter Try.func17, Try.ntmps17
  go_wp2_with fail
  refine (read_ok H.out a 1 (by omega) hl).mono ?_
  rintro e w1 ⟨v, rfl, ho, hD, hk⟩
  rw [secsN_one] at ho
  obtain ⟨x, cap, rfl⟩ := ho.shape
  rw [(S.see a).len] at ho ⊢
  obtain ⟨b, off, rfl, hb, _⟩ := ho.addr (by decide)
  have hcap : 128 ≤ cap := by
    have := ho.lenEq
    obtain ⟨_, _, a', cap', e, h3, _⟩ := ho
    simp only [Value.slice.injEq] at e
    omega
  have hconv := conv_octs (P := Try.prog) (ho.first (m := n) hts (by decide)) 22 5 9 Try.underlying22 Try.underlying5 Try.underlying9
  have HD : Hid (IsDisk K w1 L S.spent) := hD
  have HK : Hid (Kept K w w1) := hk
  obtain ⟨cs, hcs⟩ : ∃ cs, strN ((S.see a).l.take n) = cs := ⟨_, rfl⟩
  have HCS : Hid (strN ((S.see a).l.take n) = cs) := hcs
  rw [hcs] at hconv
  clear ho hD hk hcs
  obtain rfl : cs = bs := by rw [← HCS.out, ← HBS.out, ← HN.out, HT.out]
  go_wp2
  go_ret
  exact ⟨rfl, HD.out, HK.out⟩
end Go.Proofs.Ytjjodmppneonjaa
