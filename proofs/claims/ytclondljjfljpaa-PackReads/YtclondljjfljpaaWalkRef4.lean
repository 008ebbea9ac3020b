/- Contracts of the document's answers of layer 4: 'Zig', 'Write'. -/
import Derived.Test.YtclondljjfljpaaFields4
import Derived.Test.YtclondljjfljpaaWalkOct
namespace Go.Proofs.Ytclondljjfljpaa
open Go.RowKit
set_option linter.unusedVariables false

/-- 'string' of one octet in a block of its own. -/
theorem conv_single (w : World) (x : Nat) (hx : x < 256) : (convert 25 9 (.slice (some ⟨w.heap.size, 0, none⟩) 1 1)).run Try.prog (w.alloc (.cells #[.int .u8 (x : Nat)] 5)) = .ok (.string (strN [x])) (w.alloc (.cells #[.int .u8 (x : Nat)] 5)) :=
  conv_octs (P := Try.prog) (octs_single w x hx) 25 5 9 Try.underlying25 Try.underlying5 Try.underlying9

set_option maxHeartbeats 800000 in
set_option maxRecDepth 20000 in
theorem refZig4_any (n : Int) (w : World) (hn1 : -9223372036854775808 ≤ n) (hn2 : n ≤ 9223372036854775807) :
    Calls Try.prog 23 #[.int .i64 n] w fun e w' => e = .returned (.string (strN (varN (zigI n).toNat))) ∧ Below w.heap.size w w' := by
  have hzb := zig_bd n hn1 hn2
  obtain ⟨U, hU⟩ : ∃ U : Nat, zigI n = U := ⟨(zigI n).toNat, by omega⟩
  have hU2 : U < 18446744073709551616 := by omega
  have HU : Hid (zigI n = U) := hU
  have HT : Hid ((varN U).length ≤ 10) := varN_ten hU2
  rw [show (zigI n).toNat = U by omega]
  clear hzb hU
  go_enter Try.func23, Try.ntmps23
  go_wp2_with fail
  refine (refZig_any n _ hn1 hn2).mono ?_
  rintro e w' ⟨rfl, rfl⟩
  rw [HU.out]
  go_wp2_with fail
  go_loopw [3, 4] (fun u s wr => ∃ (x : Nat) (done : List Nat), u = .int .u64 (x : Nat) ∧ s = .string (strN done) ∧ x < 18446744073709551616 ∧ Hid (varN U = done ++ varN x) ∧ Hid (Below w'.heap.size w' wr)) (fun u _ _ => (intOf u).toNat)
  case atStart => exact ⟨U, [], rfl, rfl, hU2, by simp [Hid], Below.refl _ _⟩
  case round =>
    obtain ⟨x, done, rfl, rfl, hx, HV, HB⟩ := hrel
    have hdl : done.length ≤ 10 := by
      have h1 := HT.out
      rw [HV.out, List.length_append] at h1
      omega
    by_cases hlt2 : 128 ≤ x
    · have e0 : IntKind.u8.wrap ((x : Int) % 128 + 128) = ((x % 128 + 128 : Nat) : Int) := by rw [IntKind.wrap_u8]; omega
      have HS : Hid (varN x = (x % 128 + 128) :: varN (x / 128)) := varN_great (by omega)
      have hg : x % 128 + 128 < 256 := by omega
      generalize x % 128 + 128 = g at e0 HS hg
      have hc := conv_single wr g hg
      have HA : Hid (strN done ++ strN [g] = strN (done ++ [g])) := strN_append _ _
      have hno : ¬ 9223372036854775807 < (strN done).size + (strN [g]).size := by rw [strN_size, strN_size]; simp; omega
      clear hdl
      go_wp2
      go_roundw
      case rel =>
        refine ⟨x / 128, done ++ [g], by go_num, by rw [HA.out], by omega, ?_, HB.out.alloc HB.out.size _⟩
        unfold Hid; rw [HV.out, HS.out]; simp
      case measure => simp [intOf]; omega
    · have e0 : IntKind.u8.wrap (x : Int) = (x : Int) := by rw [IntKind.wrap_u8]; omega
      have HS : Hid (varN x = [x]) := varN_small (by omega)
      have hc := conv_single wr x (by omega)
      have HA : Hid (strN done ++ strN [x] = strN (done ++ [x])) := strN_append _ _
      have hno : ¬ 9223372036854775807 < (strN done).size + (strN [x]).size := by rw [strN_size, strN_size]; simp; omega
      clear hdl
      go_wp2
      go_ret
      refine ⟨?_, HB.out.alloc HB.out.size _⟩
      rw [HV.out, HS.out, ← HA.out]
      rfl

theorem refLay_str (n m : Int) (w : World) :
    Calls Try.prog 29 #[.int .i64 n, .int .i64 m] w fun e w' => ∃ v, e = .returned v ∧ (convert 25 9 v).run Try.prog w' = .ok (.string (strN (octZ n (cl m 8)))) w' ∧ Below w.heap.size w w' := by
  refine (refLay_any n m w).mono ?_
  rintro e w' ⟨v, rfl, ho, hb⟩
  rw [octZ_cells] at ho
  exact ⟨v, rfl, conv_octs (P := Try.prog) (Octs.owned ho (octZ_small _ _)) _ _ _ Try.underlying25 Try.underlying5 Try.underlying9, hb⟩
/-- The two octets that tell how many a text has. -/
theorem octZ_two (k : Nat) (h : k < 65536) : octZ k 2 = [k % 256, k / 256] := by
  simp only [octZ, octL, List.range_succ, List.range_zero, List.nil_append, List.map_cons, List.map_nil, List.cons_append, octet]
  simp
  omega
theorem octs_two (w : World) (x y : Nat) (hx : x < 256) (hy : y < 256) : Octs (w.alloc (.cells #[.int .u8 (x : Nat), .int .u8 (y : Nat)] 5)) (.slice (some ⟨w.heap.size, 0, none⟩) 2 2) [x, y] :=
  octs_new w [x, y] 5 (by intro z hz; simp at hz; omega) (by simp [maxLen])
theorem conv_two (w : World) (x y : Nat) (hx : x < 256) (hy : y < 256) : (convert 25 9 (.slice (some ⟨w.heap.size, 0, none⟩) 2 2)).run Try.prog (w.alloc (.cells #[.int .u8 (x : Nat), .int .u8 (y : Nat)] 5)) = .ok (.string (strN [x, y])) (w.alloc (.cells #[.int .u8 (x : Nat), .int .u8 (y : Nat)] 5)) :=
  conv_octs (P := Try.prog) (octs_two w x y hx hy) 25 5 9 Try.underlying25 Try.underlying5 Try.underlying9

set_option maxHeartbeats 1600000 in
set_option maxRecDepth 20000 in
theorem refWrite_any (v : Value) (fs : List Fld) (w : World) (h : Flds w v fs) (h20 : fs.length ≤ 20) (hs : ∀ f ∈ fs, f.s.size ≤ 500) :
    Calls Try.prog 10 #[v] w fun e w' => e = .returned (.string (strN (encs fs))) ∧ Below w.heap.size w w' := by
  have H : Hid (Flds w v fs) := h
  have HL : Hid (∀ k, k ≤ fs.length → (encs (fs.take k)).length ≤ 100000) := fun k hk => by
    have := encs_len (fs.take k) (fun f hf => h.2.1 f (List.mem_of_mem_take hf)) (fun f hf => hs f (List.mem_of_mem_take hf))
    rw [List.length_take] at this
    omega
  have HS : Hid (∀ f ∈ fs, f.s.size ≤ 500) := hs
  have HOK : Hid (∀ f ∈ fs, f.Ok) := h.2.1
  obtain ⟨a, cap, rfl⟩ := h.shape
  clear h hs
  go_enter Try.func10, Try.ntmps10
  go_wp2_with fail
  go_loopw [3, 4] (fun s i wr => ∃ k : Nat, k ≤ fs.length ∧ i = .int .i64 k ∧ s = .string (strN (encs (fs.take k))) ∧ Hid (Below w.heap.size w wr)) (fun _ i _ => fs.length - (intOf i).toNat)
  case atStart => exact ⟨0, Nat.zero_le _, rfl, rfl, Below.refl _ _⟩
  case round =>
    obtain ⟨k, hk, rfl, rfl, HB⟩ := hrel
    by_cases hlt : k < fs.length
    · obtain ⟨b, off, rfl, hbl, hc⟩ := H.out.addr (by omega)
      obtain ⟨f, hf⟩ : ∃ f, fs[k]? = some f := ⟨_, List.getElem?_eq_getElem hlt⟩
      have HT : Hid (fs.take (k + 1) = fs.take k ++ [f]) := by unfold Hid; rw [List.take_add_one, hf]; rfl
      have HE : Hid (encs (fs.take (k + 1)) = encs (fs.take k) ++ enc f) := by unfold Hid; rw [HT.out, encs_snoc]
      have hmem : f ∈ fs := List.mem_of_getElem? hf
      have hfs := HS.out f hmem
      have hn1 := (HOK.out f hmem).n1
      have hn2 := (HOK.out f hmem).n2
      obtain ⟨c0, c1, c2, c3⟩ := hc k f hf
      have d0 : wr.cell? ⟨b, off + k * 4, none⟩ = some (.int .i64 f.kind) := (HB.out.cell (p := ⟨b, off + k * 4, none⟩) hbl).trans c0
      have d1 : wr.cell? ⟨b, off + k * 4 + 1, none⟩ = some (.int .i64 f.n) := (HB.out.cell (p := ⟨b, off + k * 4 + 1, none⟩) hbl).trans c1
      have d2 : wr.cell? ⟨b, off + k * 4 + 2, none⟩ = some (.int .i64 f.size) := (HB.out.cell (p := ⟨b, off + k * 4 + 2, none⟩) hbl).trans c2
      have d3 : wr.cell? ⟨b, off + k * 4 + 3, none⟩ = some (.string f.s) := (HB.out.cell (p := ⟨b, off + k * 4 + 3, none⟩) hbl).trans c3
      have HLk := HL.out k hk
      have HLk1 := HL.out (k + 1) hlt
      have HEE : Hid (enc f = if f.kind = 0 then octZ f.n (cl f.size 8) else if f.kind = 1 then varN (zigI f.n).toNat else octZ f.s.size 2 ++ octsOf f.s) := rfl
      have HQ : Hid (enc f = enc f) := rfl
      rw [HE.out, List.length_append] at HLk1
      generalize enc f = E at HE HEE HQ HLk1
      clear hc hf hmem c0 c1 c2 c3 HT HQ
      generalize f.kind = fk at *
      generalize f.n = fn at *
      generalize f.size = fz at *
      generalize f.s = fss at *
      generalize encs (fs.take k) = done at HE HLk HLk1
      have hs1 := HB.out.size
      by_cases k0 : fk = 0
      · have HE2 : Hid (E = octZ fn (cl fz 8)) := by unfold Hid; rw [HEE.out, if_pos k0]
        subst k0
        go_wp2_with fail
        refine (refLay_str fn fz _).mono ?_
        rintro e w1 ⟨v1, rfl, hcv, hb1⟩
        have HB1 : Hid (Below w.heap.size w w1) := (HB.out.alloc hs1 _).trans (hb1.mono (by simp; omega))
        rw [HE2.out] at HLk1
        have HE3 : Hid (encs (fs.take (k + 1)) = done ++ octZ fn (cl fz 8)) := by unfold Hid; rw [HE.out, HE2.out]
        generalize octZ fn (cl fz 8) = Z at hcv HLk1 HE3
        have HA : Hid (strN done ++ strN Z = strN (done ++ Z)) := strN_append _ _
        have hno : ¬ 9223372036854775807 < (strN done).size + (strN Z).size := by rw [strN_size, strN_size]; omega
        clear hb1 HLk1 HLk HE2 HEE
        go_wp2
        go_roundw
        case rel => exact ⟨k + 1, by omega, by go_num, by rw [HE3.out, HA.out], HB1⟩
        case measure => simp [intOf]; omega
      · by_cases k1 : fk = 1
        · have HE2 : Hid (E = varN (zigI fn).toNat) := by unfold Hid; rw [HEE.out, if_neg k0, if_pos k1]
          subst k1
          go_wp2_with fail
          refine (refZig4_any fn _ hn1 hn2).mono ?_
          rintro e w1 ⟨rfl, hb1⟩
          have HB1 : Hid (Below w.heap.size w w1) := (HB.out.alloc hs1 _).trans (hb1.mono (by simp; omega))
          rw [HE2.out] at HLk1
          have HE3 : Hid (encs (fs.take (k + 1)) = done ++ varN (zigI fn).toNat) := by unfold Hid; rw [HE.out, HE2.out]
          have hno : ¬ 9223372036854775807 < (strN done).size + (strN (varN (zigI fn).toNat)).size := by rw [strN_size, strN_size]; omega
          have HA : Hid (strN done ++ strN (varN (zigI fn).toNat) = strN (done ++ varN (zigI fn).toNat)) := strN_append _ _
          clear hb1 HLk1 HLk HE2 HEE
          go_wp2
          go_roundw
          case rel => exact ⟨k + 1, by omega, by go_num, by rw [HE3.out, HA.out], HB1⟩
          case measure => simp [intOf]; omega
        · have HE2 : Hid (E = octZ fss.size 2 ++ octsOf fss) := by unfold Hid; rw [HEE.out, if_neg k0, if_neg k1]
          have HE3 : Hid (encs (fs.take (k + 1)) = (done ++ [fss.size % 256, fss.size / 256]) ++ octsOf fss) := by
            unfold Hid; rw [HE.out, HE2.out, octZ_two _ (by omega), List.append_assoc]
          have HSO : Hid (strN (octsOf fss) = fss) := strN_octsOf fss
          have q1 : ((fss.size : Nat) : Int) % 256 = ((fss.size % 256 : Nat) : Int) := by omega
          have q2 : ((fss.size : Nat) : Int) / 256 = ((fss.size / 256 : Nat) : Int) := by omega
          have q3 : ((fss.size : Nat) : Int).tmod 256 = ((fss.size % 256 : Nat) : Int) := by rw [Int.tmod_eq_emod_of_nonneg (by omega)]; exact q1
          have q4 : ((fss.size : Nat) : Int).tdiv 256 = ((fss.size / 256 : Nat) : Int) := by rw [Int.tdiv_eq_ediv_of_nonneg (by omega)]; exact q2
          have hx : fss.size % 256 < 256 := Nat.mod_lt _ (by decide)
          have hy : fss.size / 256 < 256 := by omega
          generalize fss.size % 256 = x at HE3 q1 q3 hx
          generalize fss.size / 256 = y at HE3 q2 q4 hy
          have q5 : IntKind.i64.wrap (x : Int) = (x : Int) := by rw [IntKind.wrap_i64]; omega
          have q6 : IntKind.i64.wrap (y : Int) = (y : Int) := by rw [IntKind.wrap_i64]; omega
          have q7 : IntKind.u8.wrap (x : Int) = (x : Int) := by rw [IntKind.wrap_u8]; omega
          have q8 : IntKind.u8.wrap (y : Int) = (y : Int) := by rw [IntKind.wrap_u8]; omega
          have hcv := conv_two (wr.alloc (.cells #[.int .i64 fk, .int .i64 fn, .int .i64 fz, .string fss] 31)) x y hx hy
          rw [show (wr.alloc (.cells #[.int .i64 fk, .int .i64 fn, .int .i64 fz, .string fss] 31)).heap.size = wr.heap.size + 1 by simp] at hcv
          have HA : Hid (strN done ++ strN [x, y] ++ fss = strN ((done ++ [x, y]) ++ octsOf fss)) := by
            unfold Hid; rw [strN_append, ← strN_append _ (octsOf fss), HSO.out]
          have hno : ¬ 9223372036854775807 < (strN done).size + (strN [x, y]).size := by rw [strN_size, strN_size]; simp; omega
          have hno2 : ¬ 9223372036854775807 < (strN done ++ strN [x, y]).size + fss.size := by rw [strN_append, strN_size, List.length_append]; simp; omega
          have hno3 : ¬ 9223372036854775807 < (strN done).size + (strN [x, y]).size + fss.size := by rw [strN_size, strN_size]; simp; omega
          clear HLk1 HLk HE2 HEE
          go_wp2
          go_roundw
          case rel => exact ⟨k + 1, by omega, by go_num, by rw [HE3.out, ← HA.out], (HB.out.alloc hs1 _).alloc (by simp; omega) _⟩
          case measure => simp [intOf]; omega
    · obtain rfl : k = fs.length := by omega
      have HT : Hid (strN (encs (fs.take fs.length)) = strN (encs fs)) := by unfold Hid; rw [List.take_length]
      go_wp2
      go_ret
      exact ⟨congrArg (fun s => Ending.returned (.string s)) HT.out, HB.out⟩
end Go.Proofs.Ytclondljjfljpaa
