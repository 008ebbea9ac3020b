/- The law KeySorts. -/
import Derived.Test.YtpnncdidbifbaaaLawNumbers10
import Derived.Test.YtpnncdidbifbaaaWithout10
import Derived.Test.YtpnncdidbifbaaaRefSort10
namespace Go.Proofs.Ytpnncdidbifbaaa
open Go.RowKit Go.Maps
set_option linter.unusedVariables false

/-- What the law holds in hand. -/
structure Hold10 (W : World) (kv gv iv sv zv : Value) (X : Nat) (c0 c1 : List Ky) : Prop where
  ks : Keys W kv c0
  gone : Keys W gv c1
  inn : Keys W iv c0
  s : Keys W sv (sortR c0)
  z : Keys W zv (lessK c0 c1)
  m : MapAt W X c0
theorem Hold10.kept {W W' : World} {kv gv iv sv zv : Value} {X : Nat} {c0 c1 : List Ky} (h : Hold10 W kv gv iv sv zv X c0 c1) (hb : Below W.heap.size W W') : Hold10 W' kv gv iv sv zv X c0 c1 :=
  ⟨h.ks.kept hb, h.gone.kept hb, h.inn.kept hb, h.s.kept hb, h.z.kept hb, h.m.kept hb⟩
theorem MapAt.len {w : World} {b : Nat} {ks : List Ky} (h : MapAt w b ks) (ty : TypeId) : (Builtin.len_ #[33] ty #[.map (some b)]).run Try.prog w = .ok (.int .i64 ((sortR ks).length : Nat)) w := by
  obtain ⟨D, h1, h2⟩ := h
  rw [h1.len Try.underlying33 ty, h2.size]
theorem not_before {S : List Ky} {j : Nat} {x : Ky} (h : S.Nodup) (hj : S[j]? = some x) : x ∉ S.take j := by
  intro hm
  obtain ⟨i, hi, e⟩ := List.getElem_of_mem hm
  rw [List.length_take] at hi
  have hjl := (List.getElem?_eq_some_iff.1 hj)
  obtain ⟨hjl, ej⟩ := hjl
  rw [List.getElem_take] at e
  have := (List.getElem_inj (xs := S) (h₀ := by omega) (h₁ := hjl) h).1 (e.trans ej.symm)
  omega
theorem count_take {c0 : List Ky} {k : Nat} {x y : Ky} (h : c0[k]? = some y) : (c0.take (k + 1)).count x = (c0.take k).count x + (if y = x then 1 else 0) := by
  rw [take_snoc h, List.count_append, List.count_cons]
  simp
set_option maxRecDepth 20000 in
set_option maxHeartbeats 4000000 in
theorem keySorts_walk (a0 : Option Addr) (len0 cap0 : Nat) (c0 : List Ky) (a1 : Option Addr) (len1 cap1 : Nat) (c1 : List Ky) (w : World) (f0 : Keys w (.slice a0 len0 cap0) c0) (f1 : Keys w (.slice a1 len1 cap1) c1) :
    Calls Try.prog 4 #[.slice a0 len0 cap0, .slice a1 len1 cap1] w fun e w' => e = .returned (.bool true) ∧ Below w.heap.size w w' := by
  have HAW : Hid (∀ W, Calls Try.prog 7 #[] W fun e w' => e = .returned (.bool true) ∧ Below W.heap.size W w') := awake_any
  have hm0 : len0 ≤ 9223372036854775807 := by have := f0.capLe; unfold maxLen at this; omega
  have hm1 : len1 ≤ 9223372036854775807 := by have := f1.capLe; unfold maxLen at this; omega
  have HL0 : Hid (c0.length = len0) := f0.lenEq
  have HL1 : Hid (c1.length = len1) := f1.lenEq
  have HF0 : Hid (Keys w (.slice a0 len0 cap0) c0) := f0
  have HF1 : Hid (Keys w (.slice a1 len1 cap1) c1) := f1
  clear f0 f1
  by_cases hl0 : 40 < len0
  · go_enter Try.func4, Try.ntmps4
    go_wp2_with fail
    refine (HAW.out _).mono ?_
    rintro e w1 ⟨rfl, hB⟩
    have HB : Hid (Below w.heap.size w w1) := hB
    clear hB
    go_wp2_with fail
    refine (HAW.out _).mono ?_
    rintro e w2 ⟨rfl, hB2⟩
    have HB2 : Hid (Below w.heap.size w w2) := HB.out.trans (hB2.mono HB.out.size)
    clear hB2
    go_wp2
    go_ret
    exact ⟨rfl, HB2.out⟩
  by_cases hl1 : 40 < len1
  · go_enter Try.func4, Try.ntmps4
    go_wp2_with fail
    refine (HAW.out _).mono ?_
    rintro e w1 ⟨rfl, hB⟩
    have HB : Hid (Below w.heap.size w w1) := hB
    clear hB
    go_wp2_with fail
    refine (HAW.out _).mono ?_
    rintro e w2 ⟨rfl, hB2⟩
    have HB2 : Hid (Below w.heap.size w w2) := HB.out.trans (hB2.mono HB.out.size)
    clear hB2
    go_wp2
    go_ret
    exact ⟨rfl, HB2.out⟩
  have hl0' : len0 ≤ 40 := by omega
  have hl1' : len1 ≤ 40 := by omega
  clear hm0 hm1
  obtain ⟨i0, hi, hz0, hz1, hz2⟩ := info_k
  go_enter Try.func4, Try.ntmps4
  go_wp2_with fail
  refine (HAW.out _).mono ?_
  rintro e w1 ⟨rfl, hB⟩
  have HB1 : Hid (Below w.heap.size w w1) := hB
  have HKA : Hid (Keys (w1.alloc (.cells #[] 23)) (.slice a0 len0 cap0) c0) := (HF0.out.kept hB).alloc _
  have HOW : Hid ((w1.alloc (.cells #[] 23)).ownsRow w1.heap.size 23 2 (.slice (some ⟨w1.heap.size, 0, none⟩) 0 0) 0 (kcells [])) := World.ownsRow_made _ #[] 0 (Nat.le_refl _) (by decide) rfl
  clear hB
  go_wp2_with (first
    | (at_builtin; refine wpList_append_keys _ rfl _ _ 31 (by rfl) w1.heap.size 23 i0 Try.underlying31 hi hz0 hz1 hz2 (.slice (some ⟨w1.heap.size, 0, none⟩) 0 0) 0 [] (by rfl) HOW.out (.slice a0 len0 cap0) c0 (by rfl) HKA.out (by have := HL0.out; omega) (by simp) ?_; intro v5 w5 hown5 hg5 hat5; have HO5 : Hid (w5.ownsRow w1.heap.size 23 2 v5 (0 + c0.length) (kcells ([] ++ c0))) := hown5; have HB5 : Hid (Below w1.heap.size w1 w5) := ((Below.refl _ _).alloc (Nat.le_refl _) _).grown hg5 (by simp) (fun j hj => (HOW.out.lt j hj).1); clear hown5 hg5 hat5; go_frame))
  have HIN : Hid (Keys w5 v5 c0) := Keys.ofOwn (by simpa using HO5.out) HF0.out.1
  have HBA5 : Hid (Below w.heap.size w w5) := HB1.out.trans (HB5.out.mono HB1.out.size)
  clear HKA HOW HO5 HB5 HB1
  have HSO : Hid (Calls Try.prog 14 #[v5] w5 fun e w' => ∃ u, e = .returned u ∧ Keys w' u (sortR c0) ∧ Below w5.heap.size w5 w' ∧ ∀ g, u.ownBlock = some g → w5.heap.size ≤ g) := sort_any w5 v5 c0 HIN.out (by have := HL0.out; omega)
  go_wp2_with fail
  refine HSO.out.mono ?_
  rintro e w6 ⟨sv, rfl, hK, hB, _⟩
  have HS6 : Hid (Keys w6 sv (sortR c0)) := hK
  have HB6 : Hid (Below w5.heap.size w5 w6) := hB
  have HIN6 : Hid (Keys w6 v5 c0) := HIN.out.kept hB
  have HCO : Hid (Calls Try.prog 15 #[v5] w6 fun e w' => e = .returned (.map (some w6.heap.size)) ∧ MapAt w' w6.heap.size c0 ∧ Below w6.heap.size w6 w') := count_any w6 v5 c0 HIN6.out (by have := HL0.out; omega)
  clear hK hB HSO
  go_wp2_with fail
  refine HCO.out.mono ?_
  rintro e w7 ⟨rfl, hM, hB⟩
  generalize hX : w6.heap.size = X at *
  have HM7 : Hid (MapAt w7 X c0) := hM
  have HB7 : Hid (Below w5.heap.size w5 w7) := HB6.out.trans (by rw [← hX] at hB; exact hB.mono HB6.out.size)
  have HS7 : Hid (Keys w7 sv (sortR c0)) := HS6.out.kept (by rw [← hX] at hB; exact hB)
  have HIN7 : Hid (Keys w7 v5 c0) := HIN.out.kept HB7.out
  have HG7 : Hid (Keys w7 (.slice a1 len1 cap1) c1) := HF1.out.kept (HBA5.out.trans (HB7.out.mono HBA5.out.size))
  have HWI : Hid (Calls Try.prog 16 #[v5, .slice a1 len1 cap1] w7 fun e w' => ∃ u, e = .returned u ∧ Keys w' u (lessK c0 c1) ∧ Below w7.heap.size w7 w' ∧ ∀ g, u.ownBlock = some g → w7.heap.size ≤ g) := without_any w7 v5 _ c0 c1 HIN7.out HG7.out (by have := HL0.out; omega) (by have := HL1.out; omega)
  clear hM hB hX HCO HIN6 HS6 HB6
  go_wp2_with fail
  refine HWI.out.mono ?_
  rintro e w8 ⟨zv, rfl, hZ, hB, _⟩
  have HBB : Hid (Below w.heap.size w w8) := HBA5.out.trans ((HB7.out.trans (hB.mono HB7.out.size)).mono HBA5.out.size)
  have HH : Hid (Hold10 w8 (.slice a0 len0 cap0) (.slice a1 len1 cap1) v5 sv zv X c0 c1) := ⟨HF0.out.kept HBB.out, HF1.out.kept HBB.out, HIN7.out.kept hB, HS7.out.kept hB, hZ, HM7.out.kept hB⟩
  clear hZ hB HWI HIN HIN7 HM7 HS7 HG7 HB7 HBA5 HF0 HF1
  obtain ⟨sa, sc, rfl⟩ := HH.out.s.shape
  obtain ⟨m, hm⟩ : ∃ m, m = (sortR c0).length := ⟨_, rfl⟩
  have HML : Hid (m = (sortR c0).length) := hm
  have hm40 : m ≤ 40 := by have := sortR_len c0; have := HL0.out; omega
  rw [← hm] at HH ⊢
  clear hm
  go_wp2_with fail
  go_loopw [9, 10] (fun t i wr => ∃ j : Nat, i = .int .i64 (j : Nat) ∧ j ≤ m ∧ ∃ tt : Nat, t = .int .i64 (tt : Nat) ∧ tt ≤ 40 ∧ Hid (tt = cin ((sortR c0).take j) c0) ∧ ∃ q, wr = w8.drewN q) (fun _ i _ => m - (intOf i).toNat)
  case atStart => exact ⟨0, rfl, Nat.zero_le _, 0, rfl, Nat.zero_le _, by rw [List.take_zero, cin_nil]; rfl, 0, rfl⟩
  case round =>
    obtain ⟨j, rfl, hj, tt, rfl, htt, HTT, q, rfl⟩ := hrel
    by_cases hlt : j < m
    · obtain ⟨xh, xp, hx⟩ := key_at (ks := sortR c0) (j := j) (by rw [← HML.out]; exact hlt)
      obtain ⟨sb, so, rfl, hsb, hsc⟩ := HH.out.s.addr (by omega)
      have s0 : w8.cell? ⟨sb, so + j * 2, none⟩ = some (.int .i64 xh) := (hsc j _ hx).1
      have s1 : w8.cell? ⟨sb, so + j * 2 + 1, none⟩ = some (.int .i64 xp) := (hsc j _ hx).2
      have HKX : Hid (KI (xh, xp)) := HH.out.s.fit hx
      have HCN : Hid (cin ((sortR c0).take (j + 1)) c0 = cin ((sortR c0).take j) c0 + c0.count (xh, xp)) := by
        unfold Hid
        rw [take_snoc hx]
        exact cin_snoc (not_before (rises_nodup (sortR_rises c0)) hx) c0
      have HCL : Hid (cin ((sortR c0).take (j + 1)) c0 ≤ 40) := Nat.le_trans (cin_le _ _) (by have := HL0.out; omega)
      clear hsb hsc hx
      go_wp2_with fail
      go_loopw [11, 12] (fun nv i wr => ∃ k : Nat, i = .int .i64 (k : Nat) ∧ k ≤ len0 ∧ ∃ nn : Nat, nv = .int .i64 (nn : Nat) ∧ nn ≤ k ∧ Hid (nn = (c0.take k).count (xh, xp)) ∧ ∃ q, wr = w8.drewN q) (fun _ i _ => len0 - (intOf i).toNat)
      case atStart => exact ⟨0, rfl, Nat.zero_le _, 0, rfl, Nat.le_refl _, rfl, _, rfl⟩
      case round =>
        obtain ⟨k, rfl, hk, nn, rfl, hnn, HNN, q2, rfl⟩ := hrel
        by_cases hlt2 : k < len0
        · obtain ⟨kb, ko, rfl, hkb, hkc⟩ := HH.out.ks.addr (by omega)
          obtain ⟨h, p, hkk⟩ := key_at (ks := c0) (j := k) (by rw [HL0.out]; exact hlt2)
          have t0 : w8.cell? ⟨kb, ko + k * 2, none⟩ = some (.int .i64 h) := (hkc k _ hkk).1
          have t1 : w8.cell? ⟨kb, ko + k * 2 + 1, none⟩ = some (.int .i64 p) := (hkc k _ hkk).2
          have HCT : Hid ((c0.take (k + 1)).count (xh, xp) = (c0.take k).count (xh, xp) + (if (h, p) = (xh, xp) then 1 else 0)) := count_take hkk
          clear hkb hkc hkk
          by_cases e1 : h = xh
          · by_cases e2 : p = xp
            · subst e1 e2
              have HN2 : Hid (nn + 1 = (c0.take (k + 1)).count (h, p)) := by unfold Hid; rw [HCT.out, if_pos rfl, HNN.out]
              clear HCT HNN
              go_wp2_with fail
              go_quiet (fail)
              go_wp2_with fail
              go_roundw
              case rel => exact ⟨k + 1, by go_num, by omega, nn + 1, by go_num, by omega, HN2.out, _, rfl⟩
              case measure => simp [intOf]; omega
            · have HN2 : Hid (nn = (c0.take (k + 1)).count (xh, xp)) := by unfold Hid; rw [HCT.out, if_neg (fun e => e2 (by cases e; rfl)), HNN.out]; rfl
              have hne : (p == xp) = false := by simpa using e2
              clear HCT HNN
              subst e1
              go_wp2_with fail
              go_quiet (fail)
              go_wp2_with fail
              go_roundw
              case rel => exact ⟨k + 1, by go_num, by omega, nn, rfl, by omega, HN2.out, _, rfl⟩
              case measure => simp [intOf]; omega
          · have HN2 : Hid (nn = (c0.take (k + 1)).count (xh, xp)) := by unfold Hid; rw [HCT.out, if_neg (fun e => e1 (by cases e; rfl)), HNN.out]; rfl
            have hne : (h == xh) = false := by simpa using e1
            clear HCT HNN
            go_wp2_with fail
            go_quiet (fail)
            go_wp2_with fail
            go_roundw
            case rel => exact ⟨k + 1, by go_num, by omega, nn, rfl, by omega, HN2.out, _, rfl⟩
            case measure => simp [intOf]; omega
        · have HNE : Hid (nn = c0.count (xh, xp)) := by
            have h1 := HNN.out
            rwa [List.take_of_length_le (by rw [HL0.out]; omega)] at h1
          have hlk : (Instr.lookup 33 (.map (some X)) (.agg #[.int .i64 xh, .int .i64 xp]) false).run Try.prog (w8.drewN q2) = .ok (.int .i64 (nn : Nat)) (w8.drewN q2) := by
            have := (HH.out.kept (below_dr w8 q2)).m.look HKX.out
            rwa [← HNE.out] at this
          have HT2 : Hid (tt + nn = cin ((sortR c0).take (j + 1)) c0) := by unfold Hid; rw [HCN.out, HTT.out, HNE.out]
          have htn : tt + nn ≤ 40 := by have := HCL.out; have := HT2.out; omega
          clear HNN HTT HNE HCN HCL HKX
          go_wp2_with fail
          go_roundw
          case rel => exact ⟨j + 1, by go_num, by omega, tt + nn, by go_num, htn, HT2.out, _, rfl⟩
          case measure => simp [intOf]; omega
    · have HTE : Hid (tt = len0) := by
        have h1 := HTT.out
        rw [List.take_of_length_le (by rw [← HML.out]; omega), cin_all (fun k hk => sortR_mem.2 hk), HL0.out] at h1
        exact h1
      obtain ⟨w9, hw9⟩ : ∃ w9, w9 = w8.drewN q := ⟨_, rfl⟩
      have HH9 : Hid (Hold10 w9 (.slice a0 len0 cap0) (.slice a1 len1 cap1) v5 (.slice sa m sc) zv X c0 c1) := by rw [hw9]; exact HH.out.kept (below_dr w8 q)
      have HB9 : Hid (Below w.heap.size w w9) := by rw [hw9]; exact HBB.out.trans ((below_dr w8 q).mono HBB.out.size)
      have htl : len0 = tt := HTE.out.symm
      subst htl
      clear HTT HTE HH HBB
      go_wp2_with fail
      rw [← hw9]
      clear hw9
      go_loopw [13, 14] (fun v i wr => ∃ k : Nat, i = .int .i64 (k : Nat) ∧ k ≤ len0 ∧ wr.ownsRow w9.heap.size 23 2 v (lessK (c0.take k) c1).length (kcells (lessK (c0.take k) c1)) ∧ Hid (Below w9.heap.size w9 wr)) (fun _ i _ => len0 - (intOf i).toNat)
      case atStart => exact ⟨0, rfl, Nat.zero_le _, World.ownsRow_nil _ _ _ _, Below.refl _ _⟩
      case round =>
        obtain ⟨k, rfl, hk, hrow, HB⟩ := hrel
        have HRO : Hid (wr.ownsRow w9.heap.size 23 2 u13 (lessK (c0.take k) c1).length (kcells (lessK (c0.take k) c1))) := hrow
        have HHW : Hid (Hold10 wr (.slice a0 len0 cap0) (.slice a1 len1 cap1) v5 (.slice sa m sc) zv X c0 c1) := HH9.out.kept HB.out
        clear hrow
        by_cases hlt3 : k < len0
        · obtain ⟨kb, ko, rfl, hkb, hkc⟩ := HHW.out.ks.addr (by omega)
          obtain ⟨h, p, hkk⟩ := key_at (ks := c0) (j := k) (by rw [HL0.out]; exact hlt3)
          have t0 : wr.cell? ⟨kb, ko + k * 2, none⟩ = some (.int .i64 h) := (hkc k _ hkk).1
          have t1 : wr.cell? ⟨kb, ko + k * 2 + 1, none⟩ = some (.int .i64 p) := (hkc k _ hkk).2
          have HKC : Hid (∀ W, Below wr.heap.size wr W → W.cell? ⟨kb, ko + k * 2, none⟩ = some (.int .i64 h) ∧ W.cell? ⟨kb, ko + k * 2 + 1, none⟩ = some (.int .i64 p)) := fun W hW => ⟨(hW.cell (p := ⟨kb, ko + k * 2, none⟩) hkb).trans t0, (hW.cell (p := ⟨kb, ko + k * 2 + 1, none⟩) hkb).trans t1⟩
          have HI : Hid (KI (h, p)) := HHW.out.ks.fit hkk
          have HTS : Hid (c0.take (k + 1) = c0.take k ++ [(h, p)]) := take_snoc hkk
          have HLL : Hid ((lessK (c0.take k) c1).length ≤ 40) := by
            have h1 := lessK_len (c0.take k) c1
            rw [List.length_take] at h1
            unfold Hid
            omega
          have HHA : Hid (Calls Try.prog 17 #[.slice a1 len1 cap1, .agg #[.int .i64 h, .int .i64 p]] wr fun e w' => e = .returned (.bool (hasK c1 (h, p))) ∧ Below wr.heap.size wr w') := has_any wr _ c1 h p HHW.out.gone
          clear hkb hkc hkk HHW
          by_cases hin : (h, p) ∈ c1
          · have hhk : hasK c1 (h, p) = true := decide_eq_true hin
            have HE : Hid (lessK (c0.take (k + 1)) c1 = lessK (c0.take k) c1) := by unfold Hid; rw [HTS.out, lessK_snoc_in hin]
            rw [hhk] at HHA
            clear hhk hin HTS
            go_wp2_with fail
            refine HHA.out.mono ?_
            rintro e wx ⟨rfl, hBX⟩
            have HRX : Hid (wx.ownsRow w9.heap.size 23 2 u13 (lessK (c0.take (k + 1)) c1).length (kcells (lessK (c0.take (k + 1)) c1))) := by rw [HE.out]; exact HRO.out.kept (grown_below hBX) (by cases hv : u13.ownBlock <;> simp)
            have HBX : Hid (Below w9.heap.size w9 wx) := HB.out.trans (hBX.mono HB.out.size)
            clear hBX HHA HKC t0 t1
            go_wp2_with fail
            go_roundw
            case rel => exact ⟨k + 1, by go_num, by omega, HRX.out, HBX.out⟩
            case measure => simp [intOf]; omega
          · have hhk : hasK c1 (h, p) = false := decide_eq_false hin
            have HE : Hid (lessK (c0.take (k + 1)) c1 = lessK (c0.take k) c1 ++ [(h, p)]) := by unfold Hid; rw [HTS.out, lessK_snoc_no hin]
            rw [hhk] at HHA
            clear hhk hin HTS
            go_wp2_with fail
            refine HHA.out.mono ?_
            rintro e wx ⟨rfl, hBX⟩
            obtain ⟨y0, y1⟩ := HKC.out wx hBX
            have HRX : Hid (wx.ownsRow w9.heap.size 23 2 u13 (lessK (c0.take k) c1).length (kcells (lessK (c0.take k) c1))) := HRO.out.kept (grown_below hBX) (by cases hv : u13.ownBlock <;> simp)
            have HBX : Hid (Below w9.heap.size w9 wx) := HB.out.trans (hBX.mono HB.out.size)
            have HK1 : Hid (Keys (wx.alloc (.cells #[.int .i64 h, .int .i64 p] 23)) (.slice (some ⟨wx.heap.size, 0, none⟩) 1 1) [(h, p)]) := Keys.one (k := (h, p)) HI.out
            clear hBX HHA HKC t0 t1
            go_wp2_with (at_builtin; refine wpList_append_keys _ rfl _ _ 31 (by rfl) w9.heap.size 23 i0 Try.underlying31 hi hz0 hz1 hz2 u13 (lessK (c0.take k) c1).length (lessK (c0.take k) c1) (by rfl) (HRX.out.alloc _) (.slice (some ⟨wx.heap.size, 0, none⟩) 1 1) [(h, p)] (by rfl) HK1.out (by have := HLL.out; simp; omega) (by have := HBX.out.size; simp; omega) ?_; intro v7 w7 hown7 hg7 hat7; have HO7 : Hid (w7.ownsRow w9.heap.size 23 2 v7 (lessK (c0.take (k + 1)) c1).length (kcells (lessK (c0.take (k + 1)) c1))) := (by rw [HE.out, List.length_append]; exact hown7); have HB7 : Hid (Below w9.heap.size w9 w7) := (HBX.out.alloc HBX.out.size _).grown hg7 (by have := HBX.out.size; simp; omega) (fun j hj => (HRX.out.lt j hj).1); clear hown7 hg7 hat7; go_frame)
            go_roundw
            case rel => exact ⟨k + 1, by go_num, by omega, HO7.out, HB7.out⟩
            case measure => simp [intOf]; omega
        · have HLE : Hid (Keys wr u13 (lessK c0 c1)) := by
            have h1 := HRO.out
            rw [List.take_of_length_le (by rw [HL0.out]; omega)] at h1
            exact Keys.ofOwn h1 (fun k hk => HHW.out.ks.1 k (List.mem_filter.1 hk).1)
          have HRS : Hid (Calls Try.prog 19 #[.slice a0 len0 cap0] wr fun e w' => ∃ u, e = .returned u ∧ Keys w' u (sortR c0) ∧ Below wr.heap.size wr w' ∧ ∀ g, u.ownBlock = some g → wr.heap.size ≤ g) := refSort_any wr _ c0 HHW.out.ks (by have := HL0.out; omega)
          have HSM : Hid (∀ W x y L, Keys W x L → Keys W y L → Calls Try.prog 18 #[x, y] W fun e w' => e = .returned (.bool true) ∧ ∃ q, w' = W.drewN q) := fun W x y L hx hy => by
            have := same_any W x y L L hx hy
            rwa [show sameK L L = true from decide_eq_true rfl] at this
          have HBW : Hid (Below w.heap.size w wr) := HB9.out.trans (HB.out.mono HB9.out.size)
          clear HRO HB HB9
          go_wp2_with fail
          refine HRS.out.mono ?_
          rintro e wa ⟨ur, rfl, hKr, hBr, _⟩
          have HHa : Hid (Hold10 wa (.slice a0 len0 cap0) (.slice a1 len1 cap1) v5 (.slice sa m sc) zv X c0 c1) := HHW.out.kept hBr
          have HKr : Hid (Keys wa ur (sortR c0)) := hKr
          have HLa : Hid (Keys wa u13 (lessK c0 c1)) := HLE.out.kept hBr
          have HBa : Hid (Below w.heap.size w wa) := HBW.out.trans (hBr.mono HBW.out.size)
          clear hKr hBr HRS HLE HBW HHW
          go_wp2_with fail
          refine (HSM.out wa _ _ _ HHa.out.s HKr.out).mono ?_
          rintro e wb ⟨rfl, q2, rfl⟩
          have HHb : Hid (Hold10 (wa.drewN q2) (.slice a0 len0 cap0) (.slice a1 len1 cap1) v5 (.slice sa m sc) zv X c0 c1) := HHa.out.kept (below_dr wa q2)
          have HLb : Hid (Keys (wa.drewN q2) u13 (lessK c0 c1)) := HLa.out.kept (below_dr wa q2)
          have HBb : Hid (Below w.heap.size w (wa.drewN q2)) := HBa.out.trans ((below_dr wa q2).mono HBa.out.size)
          clear HHa HKr HLa HBa
          generalize wa.drewN q2 = wb at *
          have hml : (Builtin.len_ #[33] 3 #[.map (some X)]).run Try.prog wb = .ok (.int .i64 (m : Nat)) wb := by rw [HML.out]; exact HHb.out.m.len _
          go_wp2_with fail
          refine (HSM.out wb _ _ _ HHb.out.z HLb.out).mono ?_
          rintro e wc ⟨rfl, q3, rfl⟩
          have HHc : Hid (Hold10 (wb.drewN q3) (.slice a0 len0 cap0) (.slice a1 len1 cap1) v5 (.slice sa m sc) zv X c0 c1) := HHb.out.kept (below_dr wb q3)
          have HBc : Hid (Below w.heap.size w (wb.drewN q3)) := HBb.out.trans ((below_dr wb q3).mono HBb.out.size)
          clear HHb HLb HBb hml
          generalize wb.drewN q3 = wc at *
          go_wp2_with fail
          refine (HSM.out wc _ _ _ HHc.out.inn HHc.out.ks).mono ?_
          rintro e wd ⟨rfl, q4, rfl⟩
          have HBd : Hid (Below w.heap.size w (wc.drewN q4)) := HBc.out.trans ((below_dr wc q4).mono HBc.out.size)
          clear HHc HBc HSM
          go_wp2
          go_ret
          exact ⟨rfl, HBd.out⟩
end Go.Proofs.Ytpnncdidbifbaaa
