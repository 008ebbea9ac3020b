/- Fields in memory; contracts of 'small' and 'puts'. -/
import Derived.Test.YtclondljjfljpaaWalkWriting4
namespace Go.Proofs.Ytclondljjfljpaa
open Go.RowKit
set_option linter.unusedVariables false

structure Fld where
  kind : Int
  n : Int
  size : Int
  s : ByteArray
structure Fld.Ok (f : Fld) : Prop where
  n1 : -9223372036854775808 ≤ f.n
  n2 : f.n ≤ 9223372036854775807
/-- The value is a slice whose elements are these fields. -/
def Flds (w : World) (v : Value) (fs : List Fld) : Prop :=
  fs.length ≤ maxLen ∧ (∀ f ∈ fs, f.Ok) ∧ ∃ a cap, v = .slice a fs.length cap ∧ (fs = [] ∨ ∃ b off, a = some ⟨b, off, none⟩ ∧ b < w.heap.size ∧ ∀ k f, fs[k]? = some f →
    w.cell? ⟨b, off + k * 4, none⟩ = some (.int .i64 f.kind) ∧ w.cell? ⟨b, off + k * 4 + 1, none⟩ = some (.int .i64 f.n) ∧ w.cell? ⟨b, off + k * 4 + 2, none⟩ = some (.int .i64 f.size) ∧ w.cell? ⟨b, off + k * 4 + 3, none⟩ = some (.string f.s))
theorem Flds.len {w : World} {v : Value} {fs : List Fld} (h : Flds w v fs) : fs.length ≤ 9223372036854775807 := by
  have := h.1; unfold maxLen at this; omega
theorem Flds.shape {w : World} {v : Value} {fs : List Fld} (h : Flds w v fs) : ∃ a cap, v = .slice a fs.length cap := by
  obtain ⟨_, _, a, cap, e, _⟩ := h
  exact ⟨a, cap, e⟩
theorem Flds.addr {w : World} {a : Option Addr} {n cap : Nat} {fs : List Fld} (h : Flds w (.slice a n cap) fs) (h0 : 0 < fs.length) : ∃ b off, a = some ⟨b, off, none⟩ ∧ b < w.heap.size ∧ ∀ k f, fs[k]? = some f →
    w.cell? ⟨b, off + k * 4, none⟩ = some (.int .i64 f.kind) ∧ w.cell? ⟨b, off + k * 4 + 1, none⟩ = some (.int .i64 f.n) ∧ w.cell? ⟨b, off + k * 4 + 2, none⟩ = some (.int .i64 f.size) ∧ w.cell? ⟨b, off + k * 4 + 3, none⟩ = some (.string f.s) := by
  obtain ⟨_, _, a', cap', e, h5⟩ := h
  simp only [Value.slice.injEq] at e
  obtain ⟨rfl, _, rfl⟩ := e
  rcases h5 with rfl | h5
  · simp at h0
  · exact h5
theorem Flds.kept {w w' : World} {v : Value} {fs : List Fld} (h : Flds w v fs) (hb : Below w.heap.size w w') : Flds w' v fs := by
  obtain ⟨h1, h2, a, cap, rfl, h5⟩ := h
  refine ⟨h1, h2, a, cap, rfl, ?_⟩
  rcases h5 with h5 | ⟨b, off, rfl, hlt, hc⟩
  · exact .inl h5
  · refine .inr ⟨b, off, rfl, Nat.lt_of_lt_of_le hlt hb.size, fun k f hk => ?_⟩
    obtain ⟨c0, c1, c2, c3⟩ := hc k f hk
    exact ⟨(hb.cell (p := ⟨b, _, none⟩) hlt).trans c0, (hb.cell (p := ⟨b, _, none⟩) hlt).trans c1, (hb.cell (p := ⟨b, _, none⟩) hlt).trans c2, (hb.cell (p := ⟨b, _, none⟩) hlt).trans c3⟩

def smallB (fs : List Fld) : Bool := decide (fs.length ≤ 20) && fs.all fun f => decide (f.s.size ≤ 500)
theorem smallB_iff {fs : List Fld} : smallB fs = true ↔ fs.length ≤ 20 ∧ ∀ f ∈ fs, f.s.size ≤ 500 := by simp [smallB]
theorem smallB_false {fs : List Fld} {f : Fld} (h : f ∈ fs) (hs : 500 < f.s.size) : smallB fs = false := by
  cases e : smallB fs
  · rfl
  · have := (smallB_iff.1 e).2 f h
    omega

set_option maxHeartbeats 400000 in
set_option maxRecDepth 20000 in
theorem small_any (v : Value) (fs : List Fld) (w : World) (h : Flds w v fs) :
    Calls Try.prog 8 #[v] w fun e w' => e = .returned (.bool (smallB fs)) ∧ w' = w := by
  have hl := h.len
  obtain ⟨a, cap, rfl⟩ := h.shape
  by_cases h20 : (20 : Int) < fs.length
  · have HB : Hid (smallB fs = false) := by
      unfold Hid smallB
      rw [decide_eq_false (by omega)]; rfl
    clear h
    go_enter Try.func8, Try.ntmps8
    go_wp2
    go_ret
    exact ⟨ret_bool HB.out.symm, rfl⟩
  · by_cases h0 : fs.length = 0
    · have e : fs = [] := List.eq_nil_of_length_eq_zero h0
      subst e
      clear h
      go_enter Try.func8, Try.ntmps8
      go_wp2
      refine wp_loop_rounds 1 ?_
      rw [rounds_succ]
      go_wp2
      go_ret
      exact ⟨rfl, rfl⟩
    · obtain ⟨b, off, rfl, hlt, hc⟩ := h.addr (by omega)
      have HC : Hid (∀ k f, fs[k]? = some f → w.cell? ⟨b, off + k * 4, none⟩ = some (.int .i64 f.kind) ∧ w.cell? ⟨b, off + k * 4 + 1, none⟩ = some (.int .i64 f.n) ∧ w.cell? ⟨b, off + k * 4 + 2, none⟩ = some (.int .i64 f.size) ∧ w.cell? ⟨b, off + k * 4 + 3, none⟩ = some (.string f.s)) := hc
      clear h hc
      go_enter Try.func8, Try.ntmps8
      go_wp2
      go_loop [3] (fun i => ∃ k : Nat, k ≤ fs.length ∧ i = .int .i64 k ∧ Hid (∀ f ∈ fs.take k, f.s.size ≤ 500)) (fun i => fs.length - (intOf i).toNat)
      case atStart => exact ⟨0, Nat.zero_le _, rfl, fun f hf => by simp at hf⟩
      case round =>
        obtain ⟨k, hk, rfl, HA⟩ := hrel
        by_cases hlt : k < fs.length
        · obtain ⟨f, hf⟩ : ∃ f, fs[k]? = some f := ⟨_, List.getElem?_eq_getElem hlt⟩
          have HF : Hid (fs[k]? = some f) := hf
          have c3 := (HC.out k f hf).2.2.2
          obtain ⟨s, hs⟩ : ∃ s, f.s = s := ⟨_, rfl⟩
          rw [hs] at c3
          have HS : Hid (f.s = s) := hs
          clear hf hs
          by_cases h5 : (500 : Int) < s.size
          · have HB : Hid (smallB fs = false) := smallB_false (List.mem_of_getElem? HF.out) (by rw [HS.out]; omega)
            go_wp2
            go_ret
            exact ⟨ret_bool HB.out.symm, rfl⟩
          · have HA' : Hid (∀ f ∈ fs.take (k + 1), f.s.size ≤ 500) := by
              intro g hg
              rw [List.take_add_one, HF.out] at hg
              rcases List.mem_append.1 hg with e | e
              · exact HA.out g e
              · have : g = f := by simpa using e
                rw [this, HS.out]; omega
            go_wp2
            go_round
            case rel => exact ⟨k + 1, by omega, by go_num, HA'⟩
            case measure => simp [intOf]; omega
        · obtain rfl : k = fs.length := by omega
          have HB : Hid (smallB fs = true) := smallB_iff.2 ⟨by omega, fun f hf => HA.out f (by rw [List.take_length]; exact hf)⟩
          go_wp2
          go_ret
          exact ⟨ret_bool HB.out.symm, rfl⟩

/-! ### What is written -/
def enc (f : Fld) : List Nat := if f.kind = 0 then octZ f.n (cl f.size 8) else if f.kind = 1 then varN (zigI f.n).toNat else octZ f.s.size 2 ++ octsOf f.s
def encs (fs : List Fld) : List Nat := fs.flatMap enc
theorem encs_snoc (fs : List Fld) (f : Fld) : encs (fs ++ [f]) = encs fs ++ enc f := by simp [encs]
theorem enc_len (f : Fld) (h : f.Ok) (hs : f.s.size ≤ 500) : (enc f).length ≤ 502 := by
  unfold enc
  split
  · rw [octZ_length]; have := cl_le f.size 8; omega
  · split
    · have h1 := zig_bd f.n h.n1 h.n2
      have := varN_ten (u := (zigI f.n).toNat) (by omega)
      omega
    · rw [List.length_append, octZ_length, octsOf_length]; omega
theorem encs_len (fs : List Fld) (h : ∀ f ∈ fs, f.Ok) (hs : ∀ f ∈ fs, f.s.size ≤ 500) : (encs fs).length ≤ 502 * fs.length := by
  induction fs with
  | nil => simp [encs]
  | cons f r ih =>
    have h1 := enc_len f (h f (by simp)) (hs f (by simp))
    have h2 := ih (fun g hg => h g (by simp [hg])) (fun g hg => hs g (by simp [hg]))
    simp only [encs, List.flatMap_cons, List.length_append, List.length_cons] at h2 ⊢
    omega

set_option maxHeartbeats 1600000 in
set_option maxRecDepth 20000 in
theorem puts_any (v : Value) (fs : List Fld) (w : World) (h : Flds w v fs) (h20 : fs.length ≤ 20) (hs : ∀ f ∈ fs, f.s.size ≤ 500) :
    Calls Try.prog 9 #[v] w fun e w' => ∃ v', e = .returned v' ∧ Octs w' v' (encs fs) ∧ Below w.heap.size w w' := by
  have H : Hid (Flds w v fs) := h
  have HL : Hid (∀ k, k ≤ fs.length → (encs (fs.take k)).length ≤ 100000) := fun k hk => by
    have := encs_len (fs.take k) (fun f hf => h.2.1 f (List.mem_of_mem_take hf)) (fun f hf => hs f (List.mem_of_mem_take hf))
    rw [List.length_take] at this
    omega
  have HS : Hid (∀ f ∈ fs, f.s.size ≤ 500) := hs
  have HOK : Hid (∀ f ∈ fs, f.Ok) := h.2.1
  obtain ⟨a, cap, rfl⟩ := h.shape
  clear h hs
  go_enter Try.func9, Try.ntmps9
  go_wp2_with fail
  refine (write_new w).mono ?_
  rintro e w1 ⟨rfl, hw1, hb1⟩
  have HW1 : Hid (IsW w.heap.size w1 w.heap.size []) := hw1
  have HB1 : Hid (Below w.heap.size w w1) := hb1
  clear hw1 hb1
  go_wp2_with fail
  go_loopw [4] (fun i wr => ∃ k : Nat, k ≤ fs.length ∧ i = .int .i64 k ∧ Hid (IsW w.heap.size wr w.heap.size (encs (fs.take k))) ∧ Hid (Below w.heap.size w wr)) (fun i _ => fs.length - (intOf i).toNat)
  case atStart => exact ⟨0, Nat.zero_le _, rfl, HW1.out, HB1.out⟩
  case round =>
    obtain ⟨k, hk, rfl, HW, HB⟩ := hrel
    by_cases hlt : k < fs.length
    · obtain ⟨b, off, rfl, hbl, hc⟩ := H.out.addr (by omega)
      obtain ⟨f, hf⟩ : ∃ f, fs[k]? = some f := ⟨_, List.getElem?_eq_getElem hlt⟩
      have HT : Hid (fs.take (k + 1) = fs.take k ++ [f]) := by unfold Hid; rw [List.take_add_one, hf]; rfl
      have HE : Hid (encs (fs.take (k + 1)) = encs (fs.take k) ++ enc f) := by unfold Hid; rw [HT.out, encs_snoc]
      have hmem : f ∈ fs := List.mem_of_getElem? hf
      have hfs := HS.out f hmem
      have hn1 := (HOK.out f hmem).n1
      have hn2 := (HOK.out f hmem).n2
      obtain ⟨c0, c1, c2, c3⟩ := hc k f hf
      have d0 : wr.cell? ⟨b, off + k * 4, none⟩ = some (.int .i64 f.kind) := (HB.out.cell (p := ⟨b, off + k * 4, none⟩) hbl).trans c0
      have d1 : wr.cell? ⟨b, off + k * 4 + 1, none⟩ = some (.int .i64 f.n) := (HB.out.cell (p := ⟨b, off + k * 4 + 1, none⟩) hbl).trans c1
      have d2 : wr.cell? ⟨b, off + k * 4 + 2, none⟩ = some (.int .i64 f.size) := (HB.out.cell (p := ⟨b, off + k * 4 + 2, none⟩) hbl).trans c2
      have d3 : wr.cell? ⟨b, off + k * 4 + 3, none⟩ = some (.string f.s) := (HB.out.cell (p := ⟨b, off + k * 4 + 3, none⟩) hbl).trans c3
      have HLk := HL.out k hk
      have HEE : Hid (enc f = if f.kind = 0 then octZ f.n (cl f.size 8) else if f.kind = 1 then varN (zigI f.n).toNat else octZ f.s.size 2 ++ octsOf f.s) := rfl
      have HQ : Hid (enc f = enc f) := rfl
      generalize enc f = E at HE HEE HQ
      clear hc hf hmem c0 c1 c2 c3 HT HQ
      generalize f.kind = fk at *
      generalize f.n = fn at *
      generalize f.size = fz at *
      generalize f.s = fss at *
      generalize encs (fs.take k) = done at HW HE HLk
      by_cases k0 : fk = 0
      · have HE2 : Hid (E = octZ fn (cl fz 8)) := by unfold Hid; rw [HEE.out, if_pos k0]
        subst k0
        have HD : Hid (wr.cell? ⟨b, off + k * 4 + 1, none⟩ = some (.int .i64 fn) ∧ wr.cell? ⟨b, off + k * 4 + 2, none⟩ = some (.int .i64 fz)) := ⟨d1, d2⟩
        have g1 : (0 : Int) ≤ (k : Int) := by omega
        have g2 : (k : Int) < fs.length := by omega
        go_wp2
        go_region_held3 (fun w' => w'.cell? ⟨b, off + k * 4 + 1, none⟩ = some (.int .i64 fn) ∧ w'.cell? ⟨b, off + k * 4 + 2, none⟩ = some (.int .i64 fz))
          (first | exact HD.out | exact ⟨(hb2.cell (p := ⟨b, off + k * 4 + 1, none⟩) hbl).trans HD.out.1, (hb2.cell (p := ⟨b, off + k * 4 + 2, none⟩) hbl).trans HD.out.2⟩) (first
          | (go_at_call 25; refine (wnum_any HW.out.drew fn fz HLk).mono ?_; rintro e w2 ⟨rfl, hw2, hb2⟩))
        all_goals
          have R : Hid (IsW w.heap.size w2 w.heap.size (encs (fs.take (k + 1)))) := by unfold Hid; rw [HE.out, HE2.out]; exact hw2
          have R2 : Hid (Below w.heap.size w w2) := HB.out.trans (below_undrew hb2)
          clear hw2 hb2
          go_wp2
          go_roundw
          case rel => exact ⟨k + 1, by omega, by go_num, R, R2⟩
          case measure => simp [intOf]; omega
      · by_cases k1 : fk = 1
        · have HE2 : Hid (E = varN (zigI fn).toNat) := by unfold Hid; rw [HEE.out, if_neg k0, if_pos k1]
          subst k1
          go_wp2_with fail
          refine (wzig_any HW.out fn hn1 hn2 HLk).mono ?_
          rintro e w2 ⟨rfl, hw2, hb2⟩
          have R : Hid (IsW w.heap.size w2 w.heap.size (encs (fs.take (k + 1)))) := by unfold Hid; rw [HE.out, HE2.out]; exact hw2
          have R2 : Hid (Below w.heap.size w w2) := HB.out.trans hb2
          clear hw2 hb2
          go_wp2
          go_roundw
          case rel => exact ⟨k + 1, by omega, by go_num, R, R2⟩
          case measure => simp [intOf]; omega
        · have HE2 : Hid (E = octZ fss.size 2 ++ octsOf fss) := by unfold Hid; rw [HEE.out, if_neg k0, if_neg k1]
          go_wp2_with fail
          refine (wtext_any HW.out fss (by omega) HLk).mono ?_
          rintro e w2 ⟨rfl, hw2, hb2⟩
          have R : Hid (IsW w.heap.size w2 w.heap.size (encs (fs.take (k + 1)))) := by unfold Hid; rw [HE.out, HE2.out]; exact hw2
          have R2 : Hid (Below w.heap.size w w2) := HB.out.trans hb2
          clear hw2 hb2
          go_wp2
          go_roundw
          case rel => exact ⟨k + 1, by omega, by go_num, R, R2⟩
          case measure => simp [intOf]; omega
    · obtain rfl : k = fs.length := by omega
      have HLk := HL.out fs.length (Nat.le_refl _)
      have HT : Hid (fs.take fs.length = fs) := List.take_length
      rw [HT.out] at HW HLk
      go_wp2_with fail
      refine (wbytes_any HW.out HLk).mono ?_
      rintro e w2 ⟨v2, rfl, ho2, hb2⟩
      have R2 : Hid (Below w.heap.size w w2) := HB.out.trans (hb2.mono HB.out.size)
      have HO2 : Hid (Octs w2 v2 (encs fs)) := ho2
      clear ho2 hb2
      go_wp2
      go_ret
      exact ⟨_, rfl, HO2.out, R2.out⟩
end Go.Proofs.Ytclondljjfljpaa
