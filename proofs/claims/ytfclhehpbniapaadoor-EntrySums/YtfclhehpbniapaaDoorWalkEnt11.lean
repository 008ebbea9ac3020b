/- Contracts of package entry: placed, Right; the map that says how often each number is there. -/
import Derived.Test.YtfclhehpbniapaaDoorRefRight11
import Derived.Maps.OwnOps
import Derived.Maps.OwnSet
import Derived.Maps.RangeWalk
namespace Go.Proofs.YtfclhehpbniapaaDoor
open Go.RowKit Go.Maps
set_option linter.unusedVariables false

def okE (n s g : Int) : Bool := decide (0 ≤ s ∧ s < n ∧ 1 ≤ g ∧ g ≤ 281474976710655)
theorem placed_any (n s g : Int) (u : Nat) (w : World) :
    Calls Tryd.prog 35 #[.int .i64 n, .agg #[.int .i64 s, .int .i64 g, .int .u32 (u : Nat)]] w fun e w' => e = .returned (.bool (okE n s g)) ∧ Below w.heap.size w w' := by
  by_cases h1 : 0 ≤ s
  · by_cases h2 : s < n
    · by_cases h3 : 1 ≤ g
      · by_cases h4 : g ≤ 281474976710655
        · have HK : Hid (okE n s g = true) := decide_eq_true ⟨h1, h2, h3, h4⟩
          go_enter Tryd.func35, Tryd.ntmps35
          go_wp2
          go_ret
          exact ⟨ret_bool HK.out.symm, (Below.refl _ _).alloc (Nat.le_refl _) _⟩
        · have HK : Hid (okE n s g = false) := decide_eq_false (fun e => h4 e.2.2.2)
          go_enter Tryd.func35, Tryd.ntmps35
          go_wp2
          go_ret
          exact ⟨ret_bool HK.out.symm, (Below.refl _ _).alloc (Nat.le_refl _) _⟩
      · have HK : Hid (okE n s g = false) := decide_eq_false (fun e => h3 e.2.2.1)
        go_enter Tryd.func35, Tryd.ntmps35
        go_wp2
        go_ret
        exact ⟨ret_bool HK.out.symm, (Below.refl _ _).alloc (Nat.le_refl _) _⟩
    · have HK : Hid (okE n s g = false) := decide_eq_false (fun e => h2 e.2.1)
      go_enter Tryd.func35, Tryd.ntmps35
      go_wp2
      go_ret
      exact ⟨ret_bool HK.out.symm, (Below.refl _ _).alloc (Nat.le_refl _) _⟩
  · have HK : Hid (okE n s g = false) := decide_eq_false (fun e => h1 e.1)
    go_enter Tryd.func35, Tryd.ntmps35
    go_wp2
    go_ret
    exact ⟨ret_bool HK.out.symm, (Below.refl _ _).alloc (Nat.le_refl _) _⟩

/-! ### How often each number is there -/
/-- How often each of zs is there. -/
structure CountI (D : DataW Unit) (zs : List Int) : Prop where
  isMap : IsMap D
  times : ∀ x, I64 x → D.atKey (.int .i64 x) (.lit (.int .i64 0)) = .lit (.int .i64 (zs.count x : Nat))
def MapI (w : World) (b : Nat) (zs : List Int) : Prop := ∃ D : DataW Unit, w.ownsMap Tryd.prog 3 (plainElem Tryd.prog 3) b zs.length D ∧ CountI D zs
theorem wfI {c : Int} (h : I64 c) : (Lit.int .i64 c).wf = true := by
  simpa [Lit.wf, IntKind.min, IntKind.max, IntKind.signed, IntKind.bits, I64] using h
theorem lawI : Keyed Tryd.prog 3 := int_keyed Tryd.underlying3
theorem zeroI11 (w : World) : (zeroValue 3).run Tryd.prog w = .ok (.int .i64 0) w := by kernel_rfl
theorem MapI.made (w : World) : MapI (w.alloc (.map #[] 0)) w.heap.size [] := ⟨_, World.ownsMap_made _ _ _ _, isMap_empty, fun x _ => rfl⟩
theorem MapI.lt {w : World} {b : Nat} {zs : List Int} (h : MapI w b zs) : b < w.heap.size := by
  obtain ⟨D, h1, _⟩ := h
  exact h1.lt
theorem MapI.kept {w w' : World} {b : Nat} {zs : List Int} (h : MapI w b zs) (hb : Below w.heap.size w w') : MapI w' b zs := by
  obtain ⟨D, h1, h2⟩ := h
  exact ⟨D, h1.kept (row := none) ⟨hb.os, hb.tape, hb.output, hb.size, fun i hi _ => hb.block i hi⟩ (by simp), h2⟩
theorem MapI.look {w : World} {b : Nat} {zs : List Int} (h : MapI w b zs) {x : Int} (hx : I64 x) :
    (Instr.lookup 68 (.map (some b)) (.int .i64 x) false).run Tryd.prog w = .ok (.int .i64 (zs.count x : Nat)) w := by
  obtain ⟨D, h1, h2⟩ := h
  obtain ⟨c, hr, hat, _⟩ := h1.lookup_int lawI Tryd.underlying68 Tryd.underlying3 (zeroI11 _) (keyOf_int_mk Tryd.underlying3 (wfI hx))
  rw [h2.times x hx] at hat
  simp only [DataW.lit.injEq, Lit.int.injEq, true_and] at hat
  rw [hr, hat]
theorem MapI.inc {w : World} {b : Nat} {zs : List Int} (h : MapI w b zs) {x : Int} (hx : I64 x) (hl : zs.length < 1000000) :
    ∃ w', (Instr.mapUpdate 68 (.map (some b)) (.int .i64 x) (.int .i64 (((zs.count x : Nat) : Int) + 1))).run Tryd.prog w = .ok () w' ∧ MapI w' b (zs ++ [x]) ∧ w.grownBy w' (some b) := by
  obtain ⟨D, h1, h2⟩ := h
  have hc : zs.count x ≤ zs.length := List.count_le_length
  obtain ⟨w', hr, ho, hg⟩ := h1.update lawI Tryd.underlying68 (by unfold maxLen; omega) (keyOf_int_mk Tryd.underlying3 (wfI hx)) (plainElem_int (H := Unit) Tryd.underlying3 (a := ((zs.count x : Nat) : Int) + 1) (wfI ⟨by omega, by omega⟩))
  have h3 : CountI (D.put (.int .i64 x) (.lit (.int .i64 (((zs.count x : Nat) : Int) + 1)))) (zs ++ [x]) := by
    refine ⟨h2.isMap.put _ _, fun y hy => ?_⟩
    by_cases e : y = x
    · subst e
      rw [atKey_put_same h2.isMap (by simp [WideAt.IsKeyLit])]
      simp
    · rw [atKey_put_other (fun e' => e (by cases e'; rfl)), h2.times y hy, List.count_append, List.count_cons]
      have : (x == y) = false := by simpa using fun e' => e e'.symm
      simp [this]
  exact ⟨w', hr, ⟨_, by rw [List.length_append]; exact ho, h3⟩, hg⟩

/-! ### Right -/
/-- The number of the last one: none's is 0. -/
def lastN (l : List Md) (k : Nat) : Int := match k with
  | 0 => 0
  | i + 1 => match l[i]? with
    | some q => numK q.k
    | none => 0
theorem lastN_snoc {l : List Md} {k : Nat} {m : Md} (h : l[k]? = some m) : lastN l (k + 1) = numK m.k := by
  show (match l[k]? with | some q => numK q.k | none => 0) = _
  rw [h]
theorem numK_right {k : Ky} (h : isR k = true) : numK k = 4096 * k.1 + k.2 := by unfold numK; rw [if_pos h]
theorem numK_wrong {k : Ky} (h : isR k = false) : numK k = 0 := by unfold numK; rw [if_neg (by rw [h]; decide)]
theorem numK_pos {k : Ky} (h : isR k = true) : 4096 ≤ numK k := by
  rw [numK_right h]
  have := isR_iff.1 h
  omega
theorem numK_nat (k : Ky) : ∃ N : Nat, numK k = (N : Int) ∧ N ≤ 266239 := by
  cases h : isR k
  · exact ⟨0, numK_wrong h, by decide⟩
  · rw [numK_right h]
    have := isR_iff.1 h
    exact ⟨(4096 * k.1 + k.2).toNat, by omega, by omega⟩
theorem ltK_num {a b : Ky} (ha : isR a = true) (hb : isR b = true) : ltK a b = decide (numK a < numK b) := by
  rw [numK_right ha, numK_right hb]
  have h1 := isR_iff.1 ha
  have h2 := isR_iff.1 hb
  unfold ltK
  congr 1
  apply propext
  omega
theorem stepM_okM {n : Int} {l : List Md} {j : Nat} {q : Md} (hj : l[j]? = some q) (h : stepM n l j = true) : isR q.k = true := by
  rw [stepM_at hj] at h
  simp only [Bool.and_eq_true, okM] at h
  exact h.1.1.1
/-- What one round asks. -/
theorem stepM_num {n : Int} {l : List Md} {k : Nat} {m : Md} (hk : l[k]? = some m) (hp : ∀ j, j < k → stepM n l j = true) :
    stepM n l k = (decide (lastN l k < numK m.k) && okE n m.s m.g && decide (((l.take k).map Md.s).count m.s = 0)) := by
  rw [stepM_at hk]
  have e3 : freshM (l.take k) m = decide (((l.take k).map Md.s).count m.s = 0) := by
    unfold freshM
    rw [eq_comm, Bool.eq_iff_iff, decide_eq_true_iff, List.all_eq_true, List.count_eq_zero]
    constructor
    · intro h q hq
      simp only [decide_eq_true_eq]
      exact fun e => h (by rw [← e]; exact List.mem_map_of_mem hq)
    · intro h hm
      obtain ⟨q, hq, e⟩ := List.mem_map.1 hm
      have := h q hq
      simp only [decide_eq_true_eq] at this
      exact this e
  have e1 : okM n m = (isR m.k && okE n m.s m.g) := rfl
  rw [e3, e1]
  cases hr : isR m.k
  · have e4 : decide (lastN l k < numK m.k) = false := by
      rw [numK_wrong hr, decide_eq_false_iff_not]
      have : 0 ≤ lastN l k := by
        unfold lastN
        split
        · omega
        · split
          · rename_i q _
            obtain ⟨N, hN, _⟩ := numK_nat q.k
            omega
          · omega
      omega
    rw [e4]
    simp
  · have e4 : aheadM l k m = decide (lastN l k < numK m.k) := by
      unfold aheadM lastN
      match k, hk, hp with
      | 0, _, _ =>
        have := numK_pos hr
        rw [eq_comm, decide_eq_true_iff]
        show (0 : Int) < numK m.k
        omega
      | i + 1, hk, hp =>
        have hil : i < l.length := by have := (List.getElem?_eq_some_iff.1 hk).1; omega
        have hq : l[i]? = some l[i] := List.getElem?_eq_getElem hil
        simp only [hq]
        exact ltK_num (stepM_okM hq (hp i (by omega))) hr
    rw [e4]
    simp [Bool.and_comm, Bool.and_assoc]
theorem map_snoc11 {l : List Md} {k : Nat} {m : Md} (h : l[k]? = some m) : (l.take (k + 1)).map Md.s = (l.take k).map Md.s ++ [m.s] := by
  rw [take_snocA h, List.map_append]
  rfl

set_option maxRecDepth 20000 in
set_option maxHeartbeats 1600000 in
theorem right11_any (w : World) (x : Value) (l : List Md) (n : Int) (hx : Els encM 5 w x l) (hm : ∀ m ∈ l, MdI m) (hl0 : l.length ≤ 1000) :
    Calls Tryd.prog 23 #[.int .i64 n, x] w fun e w' => e = .returned (.bool (rightM n l)) ∧ Below w.heap.size w w' := by
  obtain ⟨a, ca, rfl⟩ := hx.shape
  obtain ⟨L, hn⟩ : ∃ L, L = l.length := ⟨_, rfl⟩
  rw [← hn] at hx hl0 ⊢
  have HN : Hid (L = l.length) := hn
  have HX : Hid (Els encM 5 w (.slice a L ca) l) := hx
  have HI : Hid (∀ m ∈ l, MdI m) := hm
  clear hn hx hm
  have hmm := @run_makeMap Tryd.prog
  go_enter Tryd.func23, Tryd.ntmps23
  go_wp2_with fail
  clear hmm
  have HM0 : Hid (MapI (w.alloc (.map #[] 0)) w.heap.size []) := MapI.made w
  have HB0 : Hid (Below w.heap.size w (w.alloc (.map #[] 0))) := (Below.refl _ _).alloc (Nat.le_refl _) _
  go_loopw [6, 13] (fun q i wr => ∃ k : Nat, ∃ N : Nat, i = .int .i64 (k : Nat) ∧ q = .int .i64 (N : Nat) ∧ k ≤ L ∧ N ≤ 266239 ∧ Hid (lastN l k = (N : Int)) ∧ Hid (∀ j, j < k → stepM n l j = true) ∧ Hid (MapI wr w.heap.size ((l.take k).map Md.s)) ∧ Hid (Below w.heap.size w wr)) (fun _ i _ => L - (intOf i).toNat)
  case atStart => exact ⟨0, 0, rfl, rfl, Nat.zero_le _, Nat.zero_le _, rfl, fun j hj => absurd hj (by omega), HM0.out, HB0.out⟩
  case round =>
    obtain ⟨k, N, rfl, rfl, hk, hN, HL, HT, HM, HB⟩ := hrel
    clear HM0 HB0
    by_cases hlt : k < L
    · obtain ⟨b, off, rfl, hb, hc⟩ := (HX.out.kept HB.out).md (by omega)
      obtain ⟨mh, mp, ms, mg, mu, hkk⟩ := md_at (xs := l) (j := k) (by rw [← HN.out]; exact hlt)
      obtain ⟨c0, c1, c2, c3, c4⟩ := hc k _ hkk
      have HST : Hid (stepM n l k = (decide ((N : Int) < numK (mh, mp)) && okE n ms mg && decide (((l.take k).map Md.s).count ms = 0))) := by
        have := stepM_num hkk HT.out
        rw [HL.out] at this
        exact this
      have HLL : Hid (lastN l (k + 1) = numK (mh, mp)) := lastN_snoc hkk
      have HSN : Hid ((l.take (k + 1)).map Md.s = (l.take k).map Md.s ++ [ms]) := map_snoc11 hkk
      have HIS : Hid (I64 ms) := (HI.out _ (List.mem_of_getElem? hkk)).2.2.1
      have HNO : Hid (stepM n l k = false → rightM n l = false) := fun h => rightM_no (by rw [← HN.out]; exact hlt) h
      have HC : Hid (((l.take k).map Md.s).length ≤ 1000) := by unfold Hid; rw [List.length_map, List.length_take]; omega
      obtain ⟨N2, hN2, hN3⟩ := numK_nat (mh, mp)
      have HNB : Hid (∀ W, Calls Tryd.prog 13 #[.agg #[.int .i64 mh, .int .i64 mp]] W fun e w' => e = .returned (.int .i64 (N2 : Nat)) ∧ Below W.heap.size W w') := fun W => by rw [← hN2]; exact number_any mh mp W
      rw [hN2] at HST HLL
      clear hN2 hkk hc hb HL
      obtain ⟨W0, hW⟩ : ∃ W0, W0 = wr.alloc (.cells #[.int .i64 mh, .int .i64 mp, .int .i64 ms, .int .i64 mg, .int .u32 (mu : Nat)] 51) := ⟨_, rfl⟩
      obtain ⟨X, hXX⟩ : ∃ X, X = wr.heap.size := ⟨_, rfl⟩
      have hn5 := new_five wr (.int .i64 mh) (.int .i64 mp) (.int .i64 ms) (.int .i64 mg) (.int .u32 (mu : Nat)) 51
      rw [← hW, ← hXX] at hn5
      obtain ⟨d0, d1, d2, d3, d4⟩ := hn5
      have HB0 : Hid (Below w.heap.size w W0) := by rw [hW]; exact HB.out.alloc HB.out.size _
      have HM0 : Hid (MapI W0 w.heap.size ((l.take k).map Md.s)) := by rw [hW]; exact HM.out.kept ((Below.refl _ _).alloc (Nat.le_refl _) _)
      generalize hzs : (l.take k).map Md.s = zs at *
      clear hzs
      go_wp2_with fail
      rw [← hW]
      try rw [← hXX]
      have HDK : Hid (∀ W, Below W0.heap.size W0 W → W.cell? ⟨X, 2, none⟩ = some (.int .i64 ms) ∧ W.cell? ⟨X, 3, none⟩ = some (.int .i64 mg) ∧ W.cell? ⟨X, 4, none⟩ = some (.int .u32 (mu : Nat))) := fun W hW => ⟨(hW.cell (block_lt_of_cell d2)).trans d2, (hW.cell (block_lt_of_cell d3)).trans d3, (hW.cell (block_lt_of_cell d4)).trans d4⟩
      clear hW hXX HB HM
      refine (HNB.out _).mono ?_
      rintro e w1 ⟨rfl, hB1⟩
      obtain ⟨f2, f3, f4⟩ := HDK.out w1 hB1
      have HB1 : Hid (Below w.heap.size w w1) := HB0.out.trans (hB1.mono HB0.out.size)
      have HM1 : Hid (MapI w1 w.heap.size zs) := HM0.out.kept hB1
      have HBX : Hid (Below W0.heap.size W0 w1) := hB1
      clear hB1 HNB d0 d1 d2 d3 d4 c0 c1 c2 c3 c4 HB0 HM0
      by_cases p1 : N2 ≤ N
      · have HF : Hid (rightM n l = false) := HNO.out (by rw [HST.out, decide_eq_false (show ¬ (N : Int) < (N2 : Int) by omega)]; rfl)
        clear HST HNO HDK HLL HSN
        go_wp2_with fail
        go_ret
        exact ⟨ret_bool HF.out.symm, HB1.out⟩
      have HP1 : Hid (decide ((N : Int) < (N2 : Int)) = true) := decide_eq_true (show (N : Int) < (N2 : Int) by omega)
      have HPL : Hid (∀ W, Calls Tryd.prog 35 #[.int .i64 n, .agg #[.int .i64 ms, .int .i64 mg, .int .u32 (mu : Nat)]] W fun e w' => e = .returned (.bool (okE n ms mg)) ∧ Below W.heap.size W w') := fun W => placed_any n ms mg mu W
      generalize okE n ms mg = OE at *
      cases OE
      · have HF : Hid (rightM n l = false) := HNO.out (by rw [HST.out]; simp)
        clear HST HNO HLL HSN
        go_wp2_with fail
        refine (HPL.out _).mono ?_
        rintro e w2 ⟨rfl, hB2⟩
        have HB2 : Hid (Below w.heap.size w w2) := HB1.out.trans (hB2.mono HB1.out.size)
        clear hB2 HPL f2 f3 f4 HDK
        go_wp2_with fail
        go_ret
        exact ⟨ret_bool HF.out.symm, HB2.out⟩
      · go_wp2_with fail
        refine (HPL.out _).mono ?_
        rintro e w2 ⟨rfl, hB2⟩
        have HB2 : Hid (Below w.heap.size w w2) := HB1.out.trans (hB2.mono HB1.out.size)
        have HM2 : Hid (MapI w2 w.heap.size zs) := HM1.out.kept hB2
        have g2 := (HDK.out w2 (HBX.out.trans (hB2.mono HBX.out.size))).1
        clear hB2 HPL f2 f3 f4 HDK HM1 HB1 HBX
        have hlk := HM2.out.look HIS.out
        obtain ⟨w3, hup, hm3, hg3⟩ := HM2.out.inc HIS.out (by have := HC.out; omega)
        have hcl : zs.count ms ≤ 1000 := Nat.le_trans List.count_le_length HC.out
        have HM3 : Hid (MapI w3 w.heap.size ((l.take (k + 1)).map Md.s)) := by rw [HSN.out]; exact hm3
        have HB3 : Hid (Below w.heap.size w w3) := HB2.out.grown hg3 HB2.out.size (fun j hj => by cases hj; exact Nat.le_refl _)
        clear hm3 hg3 HM2 HSN HC HIS
        by_cases p2 : 0 < zs.count ms
        · have HF : Hid (rightM n l = false) := HNO.out (by rw [HST.out, decide_eq_false (show ¬ zs.count ms = 0 by omega)]; simp)
          generalize zs.count ms = c at *
          clear HST HNO HLL hup
          go_wp2_with fail
          go_ret
          exact ⟨ret_bool HF.out.symm, HB2.out⟩
        · have HS : Hid (stepM n l k = true) := by unfold Hid; rw [HST.out, HP1.out, decide_eq_true (show zs.count ms = 0 by omega)]; rfl
          have HT2 : Hid (∀ j, j < k + 1 → stepM n l j = true) := fun j hj => by
            by_cases e : j = k
            · subst e; exact HS.out
            · exact HT.out j (by omega)
          have hz : zs.count ms = 0 := by omega
          rw [hz] at hlk hup
          have e01 : (((0 : Nat) : Int) + 1) = 1 := rfl
          rw [e01] at hup
          clear e01
          clear HST HNO HS HP1 hz p2 hcl
          go_wp2_with fail
          go_roundw
          case rel => exact ⟨k + 1, N2, by go_num, rfl, by omega, hN3, HLL.out, HT2.out, HM3.out, HB3.out⟩
          case measure => simp [intOf]; omega
    · have HE : Hid (rightM n l = true) := rightM_yes (fun j hj => HT.out j (by have := HN.out; omega))
      go_wp2
      go_ret
      exact ⟨ret_bool HE.out.symm, HB.out⟩
end Go.Proofs.YtfclhehpbniapaaDoor
