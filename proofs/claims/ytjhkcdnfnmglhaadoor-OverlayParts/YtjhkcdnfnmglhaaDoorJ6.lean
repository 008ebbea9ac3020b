/- Some texts of mine, one behind the other (joined by program). -/
import Derived.Test.YtjhkcdnfnmglhaaDoorJ5
import Derived.Test.YtjhkcdnfnmglhaaDoorJ2
import Derived.Test.YtjhkcdnfnmglhaaDoorJ4

/- Contract of overlay.placesOf. -/
namespace Go.Proofs.YtjhkcdnfnmglhaaDoor
open Go.RowKit Go.Maps
set_option linter.unusedVariables false
set_option maxRecDepth 20000

theorem slots_i64 {l : List Md} (h : ∀ m ∈ l, I64 m.s) : ∀ z ∈ slotsL l, I64 z := fun z hz => by
  obtain ⟨m, hm, e⟩ := slots_mem.1 hz
  exact e ▸ h m hm
set_option maxHeartbeats 4000000 in
theorem places12_any (w : World) (X : Nat) (l : List Md) (hM : MapL w X l) (hl : l.length ≤ 1000) (hs : ∀ m ∈ l, I64 m.s) :
    Calls Tryd.prog 16 #[.map (some X)] w fun e w' => ∃ u, e = .returned u ∧ Nums w' u (slotsL l) ∧ Below w.heap.size w w' ∧ ∀ g, u.ownBlock = some g → w.heap.size ≤ g := by
  obtain ⟨D, hown, hD⟩ := hM
  have HD : Hid (EntL D l) := hD
  have HSD : Hid (Maps.size D ≤ 1000) := by unfold Hid; rw [hD.size]; exact hl
  have HXL : Hid (X < w.heap.size) := hown.lt
  have HSI : Hid (∀ m ∈ l, I64 m.s) := hs
  obtain ⟨i0, hi, hz0, hz1, hz2⟩ := info_parts Tryd.infoI64
  obtain ⟨n, hn⟩ : ∃ n, n = l.length := ⟨_, rfl⟩
  rw [← hn] at hown
  clear hD hs hl hn
  go_enter Tryd.func16, Tryd.ntmps16
  go_wp2_with (first
    | (at_range; refine wpList_range_own _ rfl _ 52 rfl 29 34 lawK Tryd.underlying52 entR X n D rfl hown ?_; intro w0 hrg0 hg0 hs0)
    | go_in)
  go_frame
  obtain ⟨R, hR⟩ : ∃ R, R = w.heap.size := ⟨_, rfl⟩
  have HR : Hid (R = w.heap.size) := hR
  rw [← hR] at hrg0 hs0
  rw [← hR]
  try rw [← hR]
  clear hR
  go_loopw [3] (fun v wr => ∃ (left : Lit → Bool) (cnt : Nat) (ss : List Md), wr.ranges Tryd.prog 29 entR X R n D left cnt ∧ ss.length + cnt ≤ Maps.size D ∧
      wr.ownsRow (R + 1) 3 1 v ss.length (nums (ss.map Md.s)) ∧ Hid (MetL l left ss) ∧ Hid (Below R w wr) ∧ R + 1 ≤ wr.heap.size)
    (fun _ wr => wr.rangeLeft X R)
  case atStart =>
    exact ⟨_, _, [], hrg0, by simp, World.ownsRow_nil _ _ _ _, MetL.start HD.out, (Below.refl R w).grown hg0 (by have := HR.out; omega) (fun j hj => by cases hj), by omega⟩
  case round =>
    obtain ⟨left, cnt, ss, hrg, hcs, hrow, HM, HB, hsz⟩ := hrel
    have HRG : Hid (wr.ranges Tryd.prog 29 entR X R n D left cnt) := hrg
    have HRO : Hid (wr.ownsRow (R + 1) 3 1 u3 ss.length (nums (ss.map Md.s))) := hrow
    have HCS : Hid (ss.length + cnt ≤ Maps.size D) := hcs
    have HSW : Hid (R + 1 ≤ wr.heap.size) := hsz
    clear hrg hrow hcs hsz hown hrg0 hg0 hs0
    go_wp2_with (first
      | (at_next; refine wpList_next_ranges _ rfl _ rfl 29 lawK entR (fun x : Ky => Value.agg #[.int .i64 x.1, .int .i64 x.2]) evalE invK10 invV11 X R n _ _ _ rfl HRG.out ?_ ?_)
      | go_in)
    · intro hc0 hl0
      have HALL : Hid (ss.Perm l) := HM.out.all HD.out.fit HD.out.rise hl0
      have HSL : Hid (ss.length ≤ 1000) := by have := HCS.out; have := HSD.out; unfold Hid; omega
      have HSO : Hid (Calls Tryd.prog 27 #[u3] wr fun x w' => x = .returned (.tuple #[]) ∧ Nums w' u3 (slotsL l) ∧ wr.grownBy w' u3.ownBlock) := by
        refine sortNums_any wr (R + 1) 3 u3 (ss.map Md.s) (slotsL l) ?_ (slots_i64 HSI.out) ?_ (merge_slots (HALL.out.map Md.s))
        · rw [List.length_map]; exact HRO.out
        · rw [List.length_map]; have := HSL.out; omega
      have HBW : Hid (Below w.heap.size w wr) := by rw [← HR.out]; exact HB.out
      have HBW2 : Hid (∀ w', wr.grownBy w' u3.ownBlock → Below w.heap.size w w') := fun w' hg => HBW.out.grown hg (by have := HSW.out; have := HR.out; omega) (fun j hj => by have := (HRO.out.lt j hj).1; have := HR.out; omega)
      have HLB : Hid (∀ g, u3.ownBlock = some g → w.heap.size ≤ g) := fun g hg => by have := (HRO.out.lt g hg).1; have := HR.out; omega
      clear hc0 hl0 HRG HRO HM HSL HALL HCS
      go_wp2_with fail
      refine HSO.out.mono ?_
      rintro e w5 ⟨rfl, hn5, hg5⟩
      have HN5 : Hid (Nums w5 u3 (slotsL l)) := hn5
      have HB5 : Hid (Below w.heap.size w w5) := HBW2.out w5 hg5
      clear hn5 hg5 HSO
      go_wp2
      go_ret
      exact ⟨_, rfl, HN5.out, HB5.out, HLB.out⟩
    · intro h p s g u kl yd yp w2 cnt2 hkey hlk hv hat hrg2 hlt hg2 hs2 hen
      obtain ⟨x, hx', ex, rfl⟩ := keyOf_inv hkey
      obtain ⟨h', p'⟩ := x
      simp only [Value.agg.injEq, Array.mk.injEq, List.cons.injEq, Value.int.injEq, true_and, and_true] at ex
      obtain ⟨rfl, rfl⟩ := ex
      obtain ⟨⟨s', g', u'⟩, ev, ey⟩ := entR_inv hv
      simp only [evalE, Value.agg.injEq, Array.mk.injEq, List.cons.injEq, Value.int.injEq, true_and, and_true] at ev
      obtain ⟨rfl, rfl, e3⟩ := ev
      obtain rfl : u = u' := by omega
      clear e3
      simp only [Prod.mk.injEq] at ey
      obtain ⟨rfl, rfl⟩ := ey
      have HF : Hid (findM l (h, p) = some (s, g, u)) := HD.out.at_ hx' hat
      have HM2 : Hid (MetL l (fun z => left z && !z.sameKey (klit (h, p))) (ss ++ [md (h, p) (s, g, u)])) := HM.out.step (D := D) hx' hlk HF.out
      have HIS : Hid (I64 s) := HSI.out _ (find_mem HF.out)
      have HSS : Hid ((ss ++ [md (h, p) (s, g, u)]).map Md.s = ss.map Md.s ++ [s]) := by unfold Hid; rw [List.map_append]; rfl
      have hne2 : u3.ownBlock ≠ some R := fun e => by have := (HRO.out.lt R e).1; omega
      have HRO2 : Hid (w2.ownsRow (R + 1) 3 1 u3 ss.length (nums (ss.map Md.s))) := HRO.out.kept hg2 (Or.inr hne2)
      have HB2 : Hid (Below R w w2) := HB.out.grown hg2 (by have := HSW.out; omega) (fun j hj => by cases hj; exact Nat.le_refl _)
      have HS2 : Hid (R + 1 ≤ w2.heap.size) := Nat.le_trans HSW.out hg2.size
      have HRG2 : Hid (w2.ranges Tryd.prog 29 entR X R n D (fun z => left z && !z.sameKey (klit (h, p))) cnt2) := hrg2
      have HLT : Hid (cnt2 < cnt) := hlt
      have HLB : Hid (u3.ownBlock ≠ some R ∧ u3.ownBlock ≠ some X) := ⟨hne2, fun e => by have := (HRO.out.lt X e).1; have := HXL.out; have := HR.out; omega⟩
      clear hkey hlk hv hat hrg2 hlt hg2 hs2 hx' HM HRO HB HSW hne2 HF
      have HK1 : Hid (Nums ((w2.alloc (.cells #[.int .i64 s, .int .i64 g, .int .u32 (u : Nat)] 34)).alloc (.cells #[.int .i64 s] 3)) (.slice (some ⟨w2.heap.size + 1, 0, none⟩) 1 1) [s]) := by
        have h1 := Nums.one (w := w2.alloc (.cells #[.int .i64 s, .int .i64 g, .int .u32 (u : Nat)] 34)) (e := 3) HIS.out
        have e1 : (w2.alloc (.cells #[.int .i64 s, .int .i64 g, .int .u32 (u : Nat)] 34)).heap.size = w2.heap.size + 1 := by simp
        rwa [e1] at h1
      have HBa : Hid (Below R w ((w2.alloc (.cells #[.int .i64 s, .int .i64 g, .int .u32 (u : Nat)] 34)).alloc (.cells #[.int .i64 s] 3))) := (HB2.out.alloc (by have := HS2.out; omega) _).alloc (by have := HS2.out; simp; omega) _
      have HRa : Hid (((w2.alloc (.cells #[.int .i64 s, .int .i64 g, .int .u32 (u : Nat)] 34)).alloc (.cells #[.int .i64 s] 3)).ranges Tryd.prog 29 entR X R n D (fun z => left z && !z.sameKey (klit (h, p))) cnt2) := (HRG2.out.alloc _).alloc _
      go_wp2_with (first
        | (at_builtin; refine wpList_append_nums _ rfl _ _ 39 (by rfl) (R + 1) 3 i0 Tryd.underlying39 hi hz0 hz1 hz2 u3 ss.length (ss.map Md.s) (by rfl) ((HRO2.out.alloc _).alloc _) (.slice (some ⟨w2.heap.size + 1, 0, none⟩) 1 1) [s] (by rfl) HK1.out (by have := HCS.out; have := HSD.out; simp; omega) (by have := HS2.out; simp; omega) ?_; intro v5 w5 hown5 hg5 hat5; go_frame)
        | go_in)
      have HRG5 : Hid (w5.ranges Tryd.prog 29 entR X R n D (fun z => left z && !z.sameKey (klit (h, p))) cnt2) := HRa.out.kept hg5 (fun e => HLB.out.2 e.symm) (fun e => HLB.out.1 e.symm)
      have HB5 : Hid (Below R w w5) := HBa.out.grown hg5 (by have := HS2.out; simp; omega) (fun j hj => by have := (HRO2.out.lt j hj).1; omega)
      have hm1 := HRG5.out.left_eq
      have hm2 := HRG.out.left_eq
      have HS5 : Hid (R + 1 ≤ w5.heap.size) := Nat.le_trans (by have := HS2.out; simp; omega) hg5.size
      have HO5 : Hid (w5.ownsRow (R + 1) 3 1 v5 (ss ++ [md (h, p) (s, g, u)]).length (nums ((ss ++ [md (h, p) (s, g, u)]).map Md.s))) := by unfold Hid; rw [HSS.out, List.length_append]; exact hown5
      clear hown5 hg5 hat5
      go_roundw
      case rel =>
        exact ⟨_, cnt2, ss ++ [md (h, p) (s, g, u)], HRG5.out, by have := HCS.out; have := HLT.out; simp; omega, HO5.out, HM2.out, HB5.out, HS5.out⟩
      case measure => rw [hm1, hm2]; exact HLT.out
end Go.Proofs.YtjhkcdnfnmglhaaDoor

/- Contract of overlay.listOf. -/
namespace Go.Proofs.YtjhkcdnfnmglhaaDoor
open Go.RowKit Go.Maps
set_option linter.unusedVariables false
set_option maxRecDepth 20000

/-- The value is a slice of maps that hold these lists. -/
def Pgs (w : World) (v : Value) (Ls : List (Nat × List Md)) : Prop :=
  ∃ g, v = .slice (some ⟨g, 0, none⟩) Ls.length Ls.length ∧ g < w.heap.size ∧ ∀ j b l, Ls[j]? = some (b, l) → w.cell? ⟨g, j, none⟩ = some (.map (some b)) ∧ MapL w b l
theorem Pgs.at_ {w w' : World} {g n : Nat} {Ls : List (Nat × List Md)} (h : Pgs w (.slice (some ⟨g, 0, none⟩) n n) Ls) (hb : Below w.heap.size w w') {j : Nat} {b : Nat} {l : List Md} (hj : Ls[j]? = some (b, l)) : w'.cell? ⟨g, j, none⟩ = some (.map (some b)) ∧ MapL w' b l := by
  obtain ⟨g', e, hg, hc⟩ := h
  simp only [Value.slice.injEq, Option.some.injEq, Addr.mk.injEq, and_true] at e
  obtain ⟨rfl, _⟩ := e
  obtain ⟨h1, h2⟩ := hc j b l hj
  exact ⟨(hb.cell (p := ⟨g, j, none⟩) hg).trans h1, h2.kept hb⟩
theorem els_three {w : World} (o1 o2 : Obj) (x : Md) (e : TypeId) : Els encM 5 (((w.alloc o1).alloc o2).alloc (.cells #[.int .i64 x.h, .int .i64 x.p, .int .i64 x.s, .int .i64 x.g, .int .u32 (x.u : Nat)] e)) (.slice (some ⟨w.heap.size + 2, 0, none⟩) 1 1) [x] := by
  have h1 := Els.one encM_ok (w := (w.alloc o1).alloc o2) (x := x) (e := e)
  have e1 : ((w.alloc o1).alloc o2).heap.size = w.heap.size + 2 := by simp
  rw [e1] at h1
  exact h1
theorem flat_snoc {Ls : List (Nat × List Md)} {j : Nat} {b : Nat} {l : List Md} (h : Ls[j]? = some (b, l)) : (Ls.take (j + 1)).flatMap (·.2) = (Ls.take j).flatMap (·.2) ++ l := by
  rw [take_snocA h, List.flatMap_append]
  simp
set_option maxHeartbeats 4000000 in
theorem list12_any (w : World) (v : Value) (Ls : List (Nat × List Md)) (T : List Md) (hv : Pgs w v Ls) (hl : ∀ x ∈ Ls, x.2.length ≤ 1000) (hn : Ls.length ≤ 2) (hp : (Ls.flatMap (·.2)).Perm T) (hT : Rise T) (hr : ∀ k ∈ T.map Md.k, isR k = true) :
    Calls Tryd.prog 22 #[v] w fun e w' => ∃ u, e = .returned u ∧ Els encM 5 w' u T ∧ Below w.heap.size w w' ∧ ∀ g, u.ownBlock = some g → w.heap.size ≤ g := by
  obtain ⟨G, hv0, hG, hcell⟩ := id hv
  subst hv0
  obtain ⟨N, hN⟩ : ∃ N, N = Ls.length := ⟨_, rfl⟩
  rw [← hN] at hv hn ⊢
  have HN : Hid (N = Ls.length) := hN
  have HV : Hid (Pgs w (.slice (some ⟨G, 0, none⟩) N N) Ls) := hv
  have HL : Hid (∀ x ∈ Ls, x.2.length ≤ 1000) := hl
  have HG : Hid (G < w.heap.size) := hG
  have HP : Hid ((Ls.flatMap (·.2)).Perm T) := hp
  have HTR : Hid (Rise T) := hT
  have HRR : Hid (∀ k ∈ T.map Md.k, isR k = true) := hr
  obtain ⟨i1, hi1, hz3, hz4, hz5⟩ := info_parts Tryd.infoM11
  clear hN hv hl hG hp hT hr hcell
  go_enter Tryd.func22, Tryd.ntmps22
  go_wp2_with fail
  go_loopw [3, 10] (fun v i wr => ∃ (k : Nat) (ss : List Md), i = .int .i64 (k : Nat) ∧ k ≤ N ∧ ss.length ≤ k * 1000 ∧ wr.ownsRow w.heap.size 47 5 v ss.length (ecells encM ss) ∧ Hid (ss.Perm ((Ls.take k).flatMap (·.2))) ∧ Hid (Below w.heap.size w wr)) (fun _ i _ => N - (intOf i).toNat)
  case atStart => exact ⟨0, [], rfl, Nat.zero_le _, by simp, World.ownsRow_nil _ _ _ _, by simp [Hid], Below.refl _ _⟩
  case round =>
    obtain ⟨k, ss, rfl, hk, hsl, hrow, HPM, HB⟩ := hrel
    have HRO : Hid (wr.ownsRow w.heap.size 47 5 u3 ss.length (ecells encM ss)) := hrow
    have HSL : Hid (ss.length ≤ k * 1000) := hsl
    clear hrow hsl
    by_cases hlt : k < N
    · obtain ⟨⟨X, l⟩, hkk⟩ : ∃ x, Ls[k]? = some x := ⟨_, List.getElem?_eq_getElem (by rw [← HN.out]; exact hlt)⟩
      obtain ⟨c0, hM⟩ := HV.out.at_ HB.out hkk
      have HLX : Hid (l.length ≤ 1000) := HL.out _ (List.mem_of_getElem? hkk)
      have HFL : Hid ((Ls.take (k + 1)).flatMap (·.2) = (Ls.take k).flatMap (·.2) ++ l) := flat_snoc hkk
      have HXL : Hid (X < w.heap.size) := by obtain ⟨_, h2⟩ := HV.out.at_ (Below.refl _ _) hkk; exact h2.lt
      obtain ⟨D, hown, hD⟩ := hM
      have HD : Hid (EntL D l) := hD
      have HSD : Hid (Maps.size D ≤ 1000) := by unfold Hid; rw [hD.size]; exact HLX.out
      obtain ⟨n, hn⟩ : ∃ n, n = l.length := ⟨_, rfl⟩
      rw [← hn] at hown
      clear hkk hD hn
      go_wp2_with (first
        | (at_range; refine wpList_range_own _ rfl _ 52 rfl 29 34 lawK Tryd.underlying52 entR X n D rfl hown ?_; intro w0 hrg0 hg0 hs0)
        | go_in)
      try go_frame
      obtain ⟨R, hR⟩ : ∃ R, R = wr.heap.size := ⟨_, rfl⟩
      have HR : Hid (R = wr.heap.size) := hR
      rw [← hR] at hrg0 hs0
      rw [← hR]
      try rw [← hR]
      have HRW : Hid (w.heap.size ≤ R) := by rw [hR]; exact HB.out.size
      have HUR : Hid (u3.ownBlock ≠ some R) := fun e => by have := (HRO.out.lt R e).2; omega
      have HO0 : Hid (w0.ownsRow w.heap.size 47 5 u3 ss.length (ecells encM ss)) := HRO.out.kept hg0 (Classical.em _)
      have HB0 : Hid (Below w.heap.size w w0) := HB.out.grown hg0 HB.out.size (fun j hj => by cases hj)
      clear hR HRO HB c0
      go_loopw [3] (fun v wr => ∃ (left : Lit → Bool) (cnt : Nat) (sm : List Md), wr.ranges Tryd.prog 29 entR X R n D left cnt ∧ sm.length + cnt ≤ Maps.size D ∧
          wr.ownsRow w.heap.size 47 5 v (ss.length + sm.length) (ecells encM (ss ++ sm)) ∧ Hid (v.ownBlock ≠ some R) ∧ Hid (MetL l left sm) ∧ Hid (Below w.heap.size w wr) ∧ R + 1 ≤ wr.heap.size)
        (fun _ wr => wr.rangeLeft X R)
      case atStart =>
        exact ⟨_, _, [], hrg0, by simp, by simpa using HO0.out, HUR.out, MetL.start HD.out, HB0.out, by omega⟩
      case round =>
        obtain ⟨left, cnt, sm, hrg, hcs, hrow, HUR, HM, HB, hsz⟩ := hrel
        have HRG : Hid (wr.ranges Tryd.prog 29 entR X R n D left cnt) := hrg
        have HRO : Hid (wr.ownsRow w.heap.size 47 5 u3 (ss.length + sm.length) (ecells encM (ss ++ sm))) := hrow
        have HCS : Hid (sm.length + cnt ≤ Maps.size D) := hcs
        have HSW : Hid (R + 1 ≤ wr.heap.size) := hsz
        clear hrg hrow hcs hsz hown hrg0 hg0 hs0
        go_wp2_with (first
          | (at_next; refine wpList_next_ranges _ rfl _ rfl 29 lawK entR (fun x : Ky => Value.agg #[.int .i64 x.1, .int .i64 x.2]) evalE invK10 invV11 X R n _ _ _ rfl HRG.out ?_ ?_)
          | go_in)
        · intro hc0 hl0
          have HALL : Hid (sm.Perm l) := HM.out.all HD.out.fit HD.out.rise hl0
          have HPM2 : Hid ((ss ++ sm).Perm ((Ls.take (k + 1)).flatMap (·.2))) := by unfold Hid; rw [HFL.out]; exact HPM.out.append HALL.out
          have HSL2 : Hid ((ss ++ sm).length ≤ (k + 1) * 1000) := by
            unfold Hid
            rw [List.length_append]
            have := HSL.out; have := HCS.out; have := HSD.out
            omega
          have HRO2 : Hid (wr.ownsRow w.heap.size 47 5 u3 (ss ++ sm).length (ecells encM (ss ++ sm))) := by unfold Hid; rw [List.length_append]; exact HRO.out
          clear hc0 hl0 HRG HRO HM HSL HALL HCS
          go_wp2
          go_roundw
          case rel => exact ⟨k + 1, ss ++ sm, by go_num, by omega, HSL2.out, HRO2.out, HPM2.out, HB.out⟩
          case measure => simp [intOf]; omega
        · intro h p s g u kl yd yp w2 cnt2 hkey hlk hv hat hrg2 hlt2 hg2 hs2 hen
          obtain ⟨x, hx', ex, rfl⟩ := keyOf_inv hkey
          obtain ⟨h', p'⟩ := x
          simp only [Value.agg.injEq, Array.mk.injEq, List.cons.injEq, Value.int.injEq, true_and, and_true] at ex
          obtain ⟨rfl, rfl⟩ := ex
          obtain ⟨⟨s', g', u'⟩, ev, ey⟩ := entR_inv hv
          simp only [evalE, Value.agg.injEq, Array.mk.injEq, List.cons.injEq, Value.int.injEq, true_and, and_true] at ev
          obtain ⟨rfl, rfl, e3⟩ := ev
          obtain rfl : u = u' := by omega
          clear e3
          simp only [Prod.mk.injEq] at ey
          obtain ⟨rfl, rfl⟩ := ey
          have HF : Hid (findM l (h, p) = some (s, g, u)) := HD.out.at_ hx' hat
          have HM2 : Hid (MetL l (fun z => left z && !z.sameKey (klit (h, p))) (sm ++ [md (h, p) (s, g, u)])) := HM.out.step (D := D) hx' hlk HF.out
          have HSS : Hid (ss ++ (sm ++ [md (h, p) (s, g, u)]) = ss ++ sm ++ [(⟨h, p, s, g, u⟩ : Md)]) := by unfold Hid; rw [List.append_assoc]; rfl
          have HRO2 : Hid (w2.ownsRow w.heap.size 47 5 u3 (ss.length + sm.length) (ecells encM (ss ++ sm))) := HRO.out.kept hg2 (Or.inr HUR.out)
          have HB2 : Hid (Below w.heap.size w w2) := HB.out.grown hg2 HB.out.size (fun j hj => by cases hj; exact HRW.out)
          have HS2 : Hid (R + 1 ≤ w2.heap.size) := Nat.le_trans HSW.out hg2.size
          have HRG2 : Hid (w2.ranges Tryd.prog 29 entR X R n D (fun z => left z && !z.sameKey (klit (h, p))) cnt2) := hrg2
          have HLT : Hid (cnt2 < cnt) := hlt2
          have HUX : Hid (u3.ownBlock ≠ some X) := fun e => by have := (HRO.out.lt X e).1; have := HXL.out; omega
          clear hkey hlk hv hat hrg2 hlt2 hg2 hs2 hx' HM HRO HB HSW HF
          have HK1 : Hid (Els encM 5 (((w2.alloc (.cells #[.int .i64 h, .int .i64 p] 29)).alloc (.cells #[.int .i64 s, .int .i64 g, .int .u32 (u : Nat)] 34)).alloc (.cells #[.int .i64 h, .int .i64 p, .int .i64 s, .int .i64 g, .int .u32 (u : Nat)] 47)) (.slice (some ⟨w2.heap.size + 2, 0, none⟩) 1 1) [⟨h, p, s, g, u⟩]) := els_three _ _ ⟨h, p, s, g, u⟩ _
          have HBa : Hid (Below w.heap.size w (((w2.alloc (.cells #[.int .i64 h, .int .i64 p] 29)).alloc (.cells #[.int .i64 s, .int .i64 g, .int .u32 (u : Nat)] 34)).alloc (.cells #[.int .i64 h, .int .i64 p, .int .i64 s, .int .i64 g, .int .u32 (u : Nat)] 47))) := ((HB2.out.alloc HB2.out.size _).alloc (by have := HB2.out.size; simp; omega) _).alloc (by have := HB2.out.size; simp; omega) _
          have HRa : Hid ((((w2.alloc (.cells #[.int .i64 h, .int .i64 p] 29)).alloc (.cells #[.int .i64 s, .int .i64 g, .int .u32 (u : Nat)] 34)).alloc (.cells #[.int .i64 h, .int .i64 p, .int .i64 s, .int .i64 g, .int .u32 (u : Nat)] 47)).ranges Tryd.prog 29 entR X R n D (fun z => left z && !z.sameKey (klit (h, p))) cnt2) := ((HRG2.out.alloc _).alloc _).alloc _
          have HSZ : Hid (w.heap.size ≤ w2.heap.size) := HB2.out.size
          go_wp2_with (first
            | (at_builtin; refine wpList_append_els encM_ok _ rfl _ _ 44 (by rfl) w.heap.size 47 i1 _ 40 Tryd.underlying44 hi1 hz3 (by rfl) hz4 hz5 (by decide) u3 (ss.length + sm.length) (ss ++ sm) (by rfl) (((HRO2.out.alloc _).alloc _).alloc _) (.slice (some ⟨w2.heap.size + 2, 0, none⟩) 1 1) [⟨h, p, s, g, u⟩] (by rfl) HK1.out (by have := HCS.out; have := HSD.out; have := HSL.out; simp; omega) (by have := HSZ.out; simp; omega) ?_; intro v5 w5 hown5 hg5 hat5; go_frame)
            | go_in)
          have HRG5 : Hid (w5.ranges Tryd.prog 29 entR X R n D (fun z => left z && !z.sameKey (klit (h, p))) cnt2) := HRa.out.kept hg5 (fun e => HUX.out e.symm) (fun e => HUR.out e.symm)
          have HB5 : Hid (Below w.heap.size w w5) := HBa.out.grown hg5 (by have := HSZ.out; simp; omega) (fun j hj => (HRO2.out.lt j hj).1)
          have hm1 := HRG5.out.left_eq
          have hm2 := HRG.out.left_eq
          have HS5 : Hid (R + 1 ≤ w5.heap.size) := Nat.le_trans (by have := HS2.out; simp; omega) hg5.size
          have HO5 : Hid (w5.ownsRow w.heap.size 47 5 v5 (ss.length + (sm ++ [md (h, p) (s, g, u)]).length) (ecells encM (ss ++ (sm ++ [md (h, p) (s, g, u)])))) := by unfold Hid; rw [HSS.out, List.length_append, ← Nat.add_assoc]; exact hown5
          have HU5 : Hid (v5.ownBlock ≠ some R) := by
            rcases hat5 with h5 | h5
            · rw [h5]; exact HUR.out
            · rw [h5]
              intro e
              simp at e
              have := HS2.out
              omega
          clear hown5 hg5 hat5
          go_roundw
          case rel =>
            exact ⟨_, cnt2, sm ++ [md (h, p) (s, g, u)], HRG5.out, by have := HCS.out; have := HLT.out; simp; omega, HO5.out, HU5.out, HM2.out, HB5.out, HS5.out⟩
          case measure => rw [hm1, hm2]; exact HLT.out
    · obtain rfl : k = N := by omega
      have HPE : Hid (ss.Perm T) := by
        have h2 := HPM.out
        rw [List.take_of_length_le (by rw [← HN.out]; exact Nat.le_refl _)] at h2
        exact h2.trans HP.out
      have HSO := sortMds_any wr w.heap.size u3 ss T HRO.out (by have := HSL.out; omega) HPE.out HTR.out HRR.out
      have HBW2 : Hid (∀ w', wr.grownBy w' u3.ownBlock → Below w.heap.size w w') := fun w' hg => HB.out.grown hg HB.out.size (fun j hj => (HRO.out.lt j hj).1)
      have HLB : Hid (∀ g, u3.ownBlock = some g → w.heap.size ≤ g) := fun g hg => (HRO.out.lt g hg).1
      clear HPM HRO HPE HSL
      go_wp2_with fail
      refine HSO.mono ?_
      rintro e w5 ⟨rfl, hn5, hg5⟩
      have HN5 : Hid (Els encM 5 w5 u3 T) := hn5
      have HB5 : Hid (Below w.heap.size w w5) := HBW2.out w5 hg5
      clear hn5 hg5 HSO
      go_wp2
      go_ret
      exact ⟨_, rfl, HN5.out, HB5.out, HLB.out⟩
end Go.Proofs.YtjhkcdnfnmglhaaDoor

/- Contract of overlay.keysOf. -/
namespace Go.Proofs.YtjhkcdnfnmglhaaDoor
open Go.RowKit Go.Maps
set_option linter.unusedVariables false
set_option maxRecDepth 20000

/-- The keys of mapped pages that are wanted. -/
def wantK (wb : Ky → Bool) (l : List Md) : List Ky := (l.map Md.k).filter wb
theorem wantK_append (wb : Ky → Bool) (a b : List Md) : wantK wb (a ++ b) = wantK wb a ++ wantK wb b := by simp [wantK]
theorem wantK_yes {wb : Ky → Bool} {x : Ky} {e : Ent} (h : wb x = true) : wantK wb [md x e] = [x] := by simp [wantK, md_k, h]
theorem wantK_no {wb : Ky → Bool} {x : Ky} {e : Ent} (h : wb x = false) : wantK wb [md x e] = [] := by simp [wantK, md_k, h]
theorem wantK_len (wb : Ky → Bool) (l : List Md) : (wantK wb l).length ≤ l.length := by
  have := List.length_filter_le wb (l.map Md.k)
  simpa [wantK] using this
end Go.Proofs.YtjhkcdnfnmglhaaDoor

/- The program's overlay in memory. -/
namespace Go.Proofs.YtjhkcdnfnmglhaaDoor
open Go.RowKit Go.Maps
set_option linter.unusedVariables false
set_option maxRecDepth 20000

/-- Where its blocks lie: the board's head, row, words and free list; the maps base, was, fresh. -/
structure OvB where
  h : Nat
  p : Nat
  b : Nat
  f : Nat
  cap : Nat
  X : Nat
  Y : Nat
  Z : Nat
/-- The overlay at block q is O. -/
structure OvAt (w : World) (q : Nat) (s : OvB) (O : Ov) : Prop where
  head : w.heap[q]? = some (.cells #[.pointer (some ⟨s.h, 0, none⟩), .map (some s.X), .map (some s.Y), .map (some s.Z)] 58 (0, 0))
  board : BoardAt w s.h s.p s.b s.f s.cap O.n O.B
  base : MapL w s.X O.base
  was : MapL w s.Y O.was
  fresh : MapL w s.Z O.fresh
  ne : s.X ≠ s.Y ∧ s.X ≠ s.Z ∧ s.Y ≠ s.Z
  pos : 0 < s.b ∧ 0 < s.f
/-- Only the board's two blocks and the maps may have turned. -/
def OvStep (s : OvB) (w w' : World) : Prop := Kept (fun k => k < w.heap.size ∧ k ≠ s.b ∧ k ≠ s.f ∧ k ≠ s.X ∧ k ≠ s.Y ∧ k ≠ s.Z) w w'
theorem OvStep.refl (s : OvB) (w : World) : OvStep s w w := Kept.refl _ w
theorem OvStep.size {s : OvB} {w w' : World} (h : OvStep s w w') : w.heap.size ≤ w'.heap.size := Kept.size h
theorem OvStep.trans {s : OvB} {x y z : World} (h : OvStep s x y) (k : OvStep s y z) : OvStep s x z :=
  Kept.trans (K := fun k => k < x.heap.size ∧ k ≠ s.b ∧ k ≠ s.f ∧ k ≠ s.X ∧ k ≠ s.Y ∧ k ≠ s.Z) h (Kept.mono k fun i hi => ⟨Nat.lt_of_lt_of_le hi.1 h.size, hi.2⟩)
theorem OvStep.ofBelow {s : OvB} {w w' : World} (h : Below w.heap.size w w') : OvStep s w w' := Kept.ofBelow h fun _ hk => hk.1
theorem OvStep.below {s : OvB} {a w w' : World} (h : OvStep s a w) (hb : Below w.heap.size w w') : OvStep s a w' := h.trans (.ofBelow hb)
theorem OvStep.ofOnly2 {s : OvB} {w w' : World} (h : Only2 s.b s.f w w') : OvStep s w w' := Kept.mono (K := fun i => i < w.heap.size ∧ i ≠ s.b ∧ i ≠ s.f) h fun _ hk => ⟨hk.1, hk.2.1, hk.2.2.1⟩
theorem OvStep.grown {s : OvB} {a w w' : World} {j : Nat} (h : OvStep s a w) (hg : w.grownBy w' (some j)) (hj : j = s.X ∨ j = s.Y ∨ j = s.Z) : OvStep s a w' :=
  Kept.grown (K := fun k => k < a.heap.size ∧ k ≠ s.b ∧ k ≠ s.f ∧ k ≠ s.X ∧ k ≠ s.Y ∧ k ≠ s.Z) h hg fun k hk => ⟨Nat.lt_of_lt_of_le hk.1 h.size, fun e => by
    simp only [Option.some.injEq] at e
    rcases hj with rfl | rfl | rfl
    · exact hk.2.2.2.1 e.symm
    · exact hk.2.2.2.2.1 e.symm
    · exact hk.2.2.2.2.2 e.symm⟩
theorem OvStep.setNew {s : OvB} {a w : World} (h : OvStep s a w) {p : Addr} (hp : a.heap.size ≤ p.block) (u : Value) : OvStep s a (w.setCell p u) :=
  Kept.setCell (K := fun k => k < a.heap.size ∧ k ≠ s.b ∧ k ≠ s.f ∧ k ≠ s.X ∧ k ≠ s.Y ∧ k ≠ s.Z) h (fun hk => absurd hk.1 (by omega)) u
theorem OvStep.heap {s : OvB} {w w' : World} (h : OvStep s w w') {k : Nat} (hk : k < w.heap.size) (h1 : k ≠ s.b ∧ k ≠ s.f ∧ k ≠ s.X ∧ k ≠ s.Y ∧ k ≠ s.Z) : w'.heap[k]? = w.heap[k]? := Kept.block h k ⟨hk, h1⟩
theorem ne_map {w : World} {i j : Nat} {C : Array Value} {t : TypeId} {g : Nat × Nat} {l : List Md} (h : w.heap[i]? = some (.cells C t g)) (hm : MapL w j l) : i ≠ j := fun e => by
  obtain ⟨es, c, h2⟩ := hm.map
  rw [e, h2] at h
  cases h
theorem OvAt.lt {w : World} {q : Nat} {s : OvB} {O : Ov} (h : OvAt w q s O) : q < w.heap.size := lt_of_heap h.head
/-- The blocks of the board and of the head are no maps. -/
theorem OvAt.off {w : World} {q : Nat} {s : OvB} {O : Ov} (h : OvAt w q s O) {j : Nat} {l : List Md} (hm : MapL w j l) : q ≠ j ∧ s.h ≠ j ∧ s.p ≠ j ∧ s.b ≠ j ∧ s.f ≠ j := by
  obtain ⟨cur, h2, _⟩ := h.board.nums
  exact ⟨ne_map h.head hm, ne_map h.board.head hm, ne_map h.board.row.head hm, ne_map h.board.row.body hm, ne_map h2 hm⟩
/-- The head is none of the board's. -/
theorem OvAt.headOff {w : World} {q : Nat} {s : OvB} {O : Ov} (h : OvAt w q s O) : q ≠ s.h ∧ q ≠ s.p ∧ q ≠ s.b ∧ q ≠ s.f := by
  obtain ⟨cur, h2, h3⟩ := h.board.nums
  exact ⟨ne_type h.head h.board.head (by decide), ne_type h.head h.board.row.head (by decide), ne_type h.head h.board.row.body (by decide), ne_type h.head h2 (by decide)⟩
theorem OvAt.kept {w w' : World} {q : Nat} {s : OvB} {O : Ov} (h : OvAt w q s O) (hb : Below w.heap.size w w') : OvAt w' q s O where
  head := (hb.block q h.lt).trans h.head
  board := h.board.below hb
  base := h.base.kept hb
  was := h.was.kept hb
  fresh := h.fresh.kept hb
  ne := h.ne
  pos := h.pos
theorem OvAt.cells {w : World} {q : Nat} {s : OvB} {O : Ov} (h : OvAt w q s O) : w.cell? ⟨q, 0, none⟩ = some (.pointer (some ⟨s.h, 0, none⟩)) ∧ w.cell? ⟨q, 1, none⟩ = some (.map (some s.X)) ∧ w.cell? ⟨q, 2, none⟩ = some (.map (some s.Y)) ∧ w.cell? ⟨q, 3, none⟩ = some (.map (some s.Z)) := by
  refine ⟨?_, ?_, ?_, ?_⟩ <;> rw [cell_of_row _ _ _ _ _ _ h.head] <;> rfl
theorem OvAt.boardTo {w w' : World} {q : Nat} {s : OvB} {O : Ov} {B : Nat → Bool} (h : OvAt w q s O) (ho : Only2 s.b s.f w w') (hB : BoardAt w' s.h s.p s.b s.f s.cap O.n B) : OvAt w' q s { O with B := B } := by
  have o0 := h.headOff
  have ox := h.off h.base
  have oy := h.off h.was
  have oz := h.off h.fresh
  exact {
    head := (ho.heap h.lt o0.2.2.1 o0.2.2.2).trans h.head
    board := hB
    base := h.base.same (ho.heap h.base.lt ox.2.2.2.1.symm ox.2.2.2.2.symm)
    was := h.was.same (ho.heap h.was.lt oy.2.2.2.1.symm oy.2.2.2.2.symm)
    fresh := h.fresh.same (ho.heap h.fresh.lt oz.2.2.2.1.symm oz.2.2.2.2.symm)
    ne := h.ne
    pos := h.pos }
theorem grown_block {w w' : World} {i j : Nat} (hg : w.grownBy w' (some j)) (hi : i < w.heap.size) (hne : i ≠ j) : w'.heap[i]? = w.heap[i]? := hg.block i hi (fun e => hne (Option.some.inj e))
theorem OvAt.boardOver {w w' : World} {q : Nat} {s : OvB} {O : Ov} {j : Nat} {l : List Md} (h : OvAt w q s O) (hj : MapL w j l) (hg : w.grownBy w' (some j)) : w'.heap[q]? = w.heap[q]? ∧ BoardAt w' s.h s.p s.b s.f s.cap O.n O.B := by
  have o := h.off hj
  obtain ⟨cur, h2, _⟩ := h.board.nums
  exact ⟨grown_block hg h.lt o.1, h.board.same (grown_block hg (lt_of_heap h.board.head) o.2.1) (grown_block hg (lt_of_heap h.board.row.head) o.2.2.1) (grown_block hg (lt_of_heap h.board.row.body) o.2.2.2.1) (grown_block hg (lt_of_heap h2) o.2.2.2.2)⟩
theorem OvAt.baseTo {w w' : World} {q : Nat} {s : OvB} {O : Ov} {l : List Md} (h : OvAt w q s O) (hg : w.grownBy w' (some s.X)) (hM : MapL w' s.X l) : OvAt w' q s { O with base := l } where
  head := (h.boardOver h.base hg).1.trans h.head
  board := (h.boardOver h.base hg).2
  base := hM
  was := h.was.same (grown_block hg h.was.lt h.ne.1.symm)
  fresh := h.fresh.same (grown_block hg h.fresh.lt h.ne.2.1.symm)
  ne := h.ne
  pos := h.pos
theorem OvAt.wasTo {w w' : World} {q : Nat} {s : OvB} {O : Ov} {l : List Md} (h : OvAt w q s O) (hg : w.grownBy w' (some s.Y)) (hM : MapL w' s.Y l) : OvAt w' q s { O with was := l } where
  head := (h.boardOver h.was hg).1.trans h.head
  board := (h.boardOver h.was hg).2
  base := h.base.same (grown_block hg h.base.lt h.ne.1)
  was := hM
  fresh := h.fresh.same (grown_block hg h.fresh.lt h.ne.2.2.symm)
  ne := h.ne
  pos := h.pos
theorem OvAt.freshTo {w w' : World} {q : Nat} {s : OvB} {O : Ov} {l : List Md} (h : OvAt w q s O) (hg : w.grownBy w' (some s.Z)) (hM : MapL w' s.Z l) : OvAt w' q s { O with fresh := l } where
  head := (h.boardOver h.fresh hg).1.trans h.head
  board := (h.boardOver h.fresh hg).2
  base := h.base.same (grown_block hg h.base.lt h.ne.2.1)
  was := h.was.same (grown_block hg h.was.lt h.ne.2.2)
  fresh := hM
  ne := h.ne
  pos := h.pos
theorem heap_of_cell {w : World} {b i : Nat} {v : Value} (h : w.cell? ⟨b, i, none⟩ = some v) : ∃ C t g, w.heap[b]? = some (.cells C t g) := by
  unfold World.cell? at h
  cases hb : w.heap[b]? with
  | none => simp [hb] at h
  | some o => cases o <;> first | exact ⟨_, _, _, rfl⟩ | simp [hb] at h
theorem Steps.ov {w w' : World} {q : Nat} {s : OvB} {O : Ov} (h : Steps w) (hO : OvAt w q s O) (hs : OvStep s w w') : Steps w' := fun j hj => by
  have hc := h j hj
  obtain ⟨C, t, g, hb⟩ := heap_of_cell hc
  refine (Kept.cell (p := ⟨0, j, none⟩) hs ⟨h.pos, ?_, ?_, ne_map hb hO.base, ne_map hb hO.was, ne_map hb hO.fresh⟩).trans hc
  · have := hO.pos; show 0 ≠ s.b; omega
  · have := hO.pos; show 0 ≠ s.f; omega
/-- The maps are small. -/
def OvSmall (O : Ov) : Prop := O.base.length ≤ 490 ∧ O.was.length ≤ 490 ∧ O.fresh.length ≤ 490
end Go.Proofs.YtjhkcdnfnmglhaaDoor

/- Contract of an overlay's Get. -/
namespace Go.Proofs.YtjhkcdnfnmglhaaDoor
open Go.RowKit Go.Maps
set_option linter.unusedVariables false
set_option maxRecDepth 20000
end Go.Proofs.YtjhkcdnfnmglhaaDoor

/- Contract of an overlay's retire. -/
namespace Go.Proofs.YtjhkcdnfnmglhaaDoor
open Go.RowKit Go.Maps
set_option linter.unusedVariables false
set_option maxRecDepth 20000

theorem free_ne {w : World} {i q p b f cap n : Nat} {B : Nat → Bool} {C : Array Value} {t : TypeId} {g : Nat × Nat} (h : w.heap[i]? = some (.cells C t g)) (hB : BoardAt w q p b f cap n B) (ht : t ≠ 3) : i ≠ f := by
  obtain ⟨cur, h2, _⟩ := hB.nums
  exact ne_type h h2 ht
theorem OvAt.drew {w : World} {q : Nat} {s : OvB} {O : Ov} (h : OvAt w q s O) : OvAt w.drew q s O := h.kept (Below.refl _ _).drew
theorem OvStep.drew {s : OvB} {a w : World} (h : OvStep s a w) : OvStep s a w.drew := h.below (Below.refl _ _).drew
set_option maxHeartbeats 2000000 in
theorem retire12_any (w : World) (q : Nat) (s : OvB) (O : Ov) (h p : Int) (hO : OvAt w q s O) (hk : KI (h, p)) (hl : OvSmall O) :
    Calls Tryd.prog 19 #[.pointer (some ⟨q, 0, none⟩), .agg #[.int .i64 h, .int .i64 p]] w fun x w' => x = .returned (.bool (findM O.base (h, p)).isSome) ∧ OvAt w' q s (retireO O (h, p)) ∧ OvStep s w w' := by
  have HK : Hid (KI (h, p)) := hk
  have HO : Hid (OvAt w q s O) := hO
  have HLEN : Hid (O.base.length ≤ 490 ∧ O.was.length ≤ 490 ∧ O.fresh.length ≤ 490) := hl
  clear hO hk hl
  rcases hf : findM O.base (h, p) with _ | ⟨s0, s1, s2⟩
  · rw [retire_none hf]
    have HLB : Hid (∀ W', MapL W' s.X O.base → (Instr.lookup 52 (.map (some s.X)) (.agg #[.int .i64 h, .int .i64 p]) true).run Tryd.prog W' = .ok (.tuple #[.agg #[.int .i64 0, .int .i64 0, .int .u32 0], .bool false]) W') := fun W' hm => by
      have h9 := hm.look (k := (h, p)) HK.out
      rw [hf] at h9
      exact h9
    clear hf
    go_enter Tryd.func19, Tryd.ntmps19
    go_wp2_with fail
    obtain ⟨V, hW⟩ : ∃ W, W = w.alloc (.cells #[.int .i64 h, .int .i64 p] 29) := ⟨_, rfl⟩
    have HB0 : Hid (Below w.heap.size w V) := by rw [hW]; exact (Below.refl _ _).alloc (Nat.le_refl _) _
    have HGA : Hid (V.heap[w.heap.size]? = some (.cells #[.int .i64 h, .int .i64 p] 29 (0, 0))) := by rw [hW]; exact heap_alloc_new w _
    have HOV : Hid (OvAt V q s O) := HO.out.kept HB0.out
    rw [← hW]
    obtain ⟨A, hA⟩ : ∃ A, A = w.heap.size := ⟨_, rfl⟩
    rw [← hA] at HGA
    try rw [← hA]
    have HA : Hid (A = w.heap.size) := hA
    clear hW hA
    have HS9 : Hid (∀ w', Below V.heap.size V w' → (w'.cell? ⟨A, 0, none⟩ = some (.int .i64 h) ∧ w'.cell? ⟨A, 1, none⟩ = some (.int .i64 p)) ∧ w'.cell? ⟨q, 1, none⟩ = some (.map (some s.X)) ∧ (Instr.lookup 52 (.map (some s.X)) (.agg #[.int .i64 h, .int .i64 p]) true).run Tryd.prog w' = .ok (.tuple #[.agg #[.int .i64 0, .int .i64 0, .int .u32 0], .bool false]) w') := fun w' hb => ⟨cells2' ((hb.block A (lt_of_heap HGA.out)).trans HGA.out), (HOV.out.kept hb).cells.2.1, HLB.out w' (HOV.out.base.kept hb)⟩
    go_region_held3 (fun w' => (w'.cell? ⟨A, 0, none⟩ = some (.int .i64 h) ∧ w'.cell? ⟨A, 1, none⟩ = some (.int .i64 p)) ∧ w'.cell? ⟨q, 1, none⟩ = some (.map (some s.X)) ∧ (Instr.lookup 52 (.map (some s.X)) (.agg #[.int .i64 h, .int .i64 p]) true).run Tryd.prog w' = .ok (.tuple #[.agg #[.int .i64 0, .int .i64 0, .int .u32 0], .bool false]) w') (first | exact HS9.out _ (Below.refl _ _).drew | exact HS9.out _ ((Below.refl _ _).drew.alloc (Nat.le_refl _) _)) (fail)
    all_goals
      have HZV1 : Hid ((V.alloc (.cells #[.int .i64 0, .int .i64 0, .int .u32 0] 34)).drew.heap[V.heap.size]? = some (.cells #[.int .i64 0, .int .i64 0, .int .u32 0] 34 (0, 0))) := heap_alloc_new V _
      have HBV1 : Hid (Below V.heap.size V (V.alloc (.cells #[.int .i64 0, .int .i64 0, .int .u32 0] 34)).drew) := ((Below.refl _ _).alloc (Nat.le_refl _) _).drew
      generalize (V.alloc (.cells #[.int .i64 0, .int .i64 0, .int .u32 0] 34)).drew = V1 at *
      obtain ⟨Zb, hZb⟩ : ∃ Zb, Zb = V.heap.size := ⟨_, rfl⟩
      have HGV1 : Hid (Zb = V.heap.size) := hZb
      rw [← hZb] at HZV1
      try rw [← hZb]
      clear hZb HS9
      have HOE : Hid (OvAt V1 q s O) := HOV.out.kept HBV1.out
      have HST : Hid (OvStep s w V1) := .ofBelow (HB0.out.trans (HBV1.out.mono HB0.out.size))
      go_wp2
      go_ret
      exact ⟨rfl, HOE.out, HST.out⟩
  · rw [retire_some hf]
    have HLB : Hid (∀ W', MapL W' s.X O.base → (Instr.lookup 52 (.map (some s.X)) (.agg #[.int .i64 h, .int .i64 p]) true).run Tryd.prog W' = .ok (.tuple #[.agg #[.int .i64 s0, .int .i64 s1, .int .u32 (s2 : Nat)], .bool true]) W') := fun W' hm => by
      have h9 := hm.look (k := (h, p)) HK.out
      rw [hf] at h9
      exact h9
    clear hf
    go_enter Tryd.func19, Tryd.ntmps19
    go_wp2_with fail
    obtain ⟨V, hW⟩ : ∃ W, W = w.alloc (.cells #[.int .i64 h, .int .i64 p] 29) := ⟨_, rfl⟩
    have HB0 : Hid (Below w.heap.size w V) := by rw [hW]; exact (Below.refl _ _).alloc (Nat.le_refl _) _
    have HGA : Hid (V.heap[w.heap.size]? = some (.cells #[.int .i64 h, .int .i64 p] 29 (0, 0))) := by rw [hW]; exact heap_alloc_new w _
    have HOV : Hid (OvAt V q s O) := HO.out.kept HB0.out
    rw [← hW]
    obtain ⟨A, hA⟩ : ∃ A, A = w.heap.size := ⟨_, rfl⟩
    rw [← hA] at HGA
    try rw [← hA]
    have HA : Hid (A = w.heap.size) := hA
    clear hW hA
    have HS9 : Hid (∀ w', Below V.heap.size V w' → (w'.cell? ⟨A, 0, none⟩ = some (.int .i64 h) ∧ w'.cell? ⟨A, 1, none⟩ = some (.int .i64 p)) ∧ w'.cell? ⟨q, 1, none⟩ = some (.map (some s.X)) ∧ (Instr.lookup 52 (.map (some s.X)) (.agg #[.int .i64 h, .int .i64 p]) true).run Tryd.prog w' = .ok (.tuple #[.agg #[.int .i64 s0, .int .i64 s1, .int .u32 (s2 : Nat)], .bool true]) w') := fun w' hb => ⟨cells2' ((hb.block A (lt_of_heap HGA.out)).trans HGA.out), (HOV.out.kept hb).cells.2.1, HLB.out w' (HOV.out.base.kept hb)⟩
    go_region_held3 (fun w' => (w'.cell? ⟨A, 0, none⟩ = some (.int .i64 h) ∧ w'.cell? ⟨A, 1, none⟩ = some (.int .i64 p)) ∧ w'.cell? ⟨q, 1, none⟩ = some (.map (some s.X)) ∧ (Instr.lookup 52 (.map (some s.X)) (.agg #[.int .i64 h, .int .i64 p]) true).run Tryd.prog w' = .ok (.tuple #[.agg #[.int .i64 s0, .int .i64 s1, .int .u32 (s2 : Nat)], .bool true]) w') (first | exact HS9.out _ (Below.refl _ _).drew | exact HS9.out _ ((Below.refl _ _).drew.alloc (Nat.le_refl _) _)) (fail)
    all_goals
      have HZV1 : Hid ((V.alloc (.cells #[.int .i64 s0, .int .i64 s1, .int .u32 (s2 : Nat)] 34)).drew.heap[V.heap.size]? = some (.cells #[.int .i64 s0, .int .i64 s1, .int .u32 (s2 : Nat)] 34 (0, 0))) := heap_alloc_new V _
      have HBV1 : Hid (Below V.heap.size V (V.alloc (.cells #[.int .i64 s0, .int .i64 s1, .int .u32 (s2 : Nat)] 34)).drew) := ((Below.refl _ _).alloc (Nat.le_refl _) _).drew
      generalize (V.alloc (.cells #[.int .i64 s0, .int .i64 s1, .int .u32 (s2 : Nat)] 34)).drew = V1 at *
      obtain ⟨Zb, hZb⟩ : ∃ Zb, Zb = V.heap.size := ⟨_, rfl⟩
      have HGV1 : Hid (Zb = V.heap.size) := hZb
      rw [← hZb] at HZV1
      try rw [← hZb]
      clear hZb HS9
      have HOV1 : Hid (OvAt V1 q s O) := HOV.out.kept HBV1.out
      have HGA1 : Hid (V1.heap[A]? = some (.cells #[.int .i64 h, .int .i64 p] 29 (0, 0))) := (HBV1.out.block A (lt_of_heap HGA.out)).trans HGA.out
      have HST1 : Hid (OvStep s w V1) := .ofBelow (HB0.out.trans (HBV1.out.mono HB0.out.size))
      go_wp2_with fail
      obtain ⟨V2, hup, hm, hg⟩ := (HOV1.out.was.drew).put (by show O.was.length < 100000; have := HLEN.out; omega) HK.out (s0, s1, s2)
      have HUP : (Instr.mapUpdate 52 (.map (some s.Y)) (.agg #[.int .i64 h, .int .i64 p]) (.agg #[.int .i64 s0, .int .i64 s1, .int .u32 (s2 : Nat)])).run Tryd.prog V1.drew = .ok () V2 := hup
      have HMV2 : Hid (MapL V2 s.Y (putL (O).was (h, p) (s0, s1, s2))) := hm
      have HGV2 : Hid (V1.drew.grownBy V2 (some s.Y)) := hg
      clear hup hm hg
      have HS7 : Hid (∀ w', Below V1.heap.size V1 w' → ((w'.cell? ⟨A, 0, none⟩ = some (.int .i64 h) ∧ w'.cell? ⟨A, 1, none⟩ = some (.int .i64 p)) ∧ w'.cell? ⟨q, 2, none⟩ = some (.map (some s.Y))) ∧ w'.cell? ⟨Zb, 0, none⟩ = some (.int .i64 s0) ∧ w'.cell? ⟨Zb, 1, none⟩ = some (.int .i64 s1) ∧ w'.cell? ⟨Zb, 2, none⟩ = some (.int .u32 (s2 : Nat))) := fun w' hb => ⟨⟨cells2' ((hb.block A (lt_of_heap HGA1.out)).trans HGA1.out), (HOV1.out.kept hb).cells.2.2.1⟩, (cells3' ((hb.block Zb (lt_of_heap HZV1.out)).trans HZV1.out)).1⟩
      have HOV2 : Hid (OvAt V2 q s ({ O with was := putL O.was (h, p) (s0, s1, s2) })) := HOV1.out.drew.wasTo HGV2.out HMV2.out
      have HGAV2 : Hid (V2.heap[A]? = some (.cells #[.int .i64 h, .int .i64 p] 29 (0, 0))) := (grown_block HGV2.out (lt_of_heap HGA1.out) (ne_map (w := V1) HGA1.out HOV1.out.was)).trans HGA1.out
      have HZV2 : Hid (V2.heap[Zb]? = some (.cells #[.int .i64 s0, .int .i64 s1, .int .u32 (s2 : Nat)] 34 (0, 0))) := (grown_block HGV2.out (lt_of_heap HZV1.out) (ne_map (w := V1) HZV1.out HOV1.out.was)).trans HZV1.out
      go_region_held3 (fun w' => ((w'.cell? ⟨A, 0, none⟩ = some (.int .i64 h) ∧ w'.cell? ⟨A, 1, none⟩ = some (.int .i64 p)) ∧ w'.cell? ⟨q, 2, none⟩ = some (.map (some s.Y))) ∧ w'.cell? ⟨Zb, 0, none⟩ = some (.int .i64 s0) ∧ w'.cell? ⟨Zb, 1, none⟩ = some (.int .i64 s1) ∧ w'.cell? ⟨Zb, 2, none⟩ = some (.int .u32 (s2 : Nat))) (first | exact HS7.out _ (Below.refl _ _).drew | exact HS7.out _ (Below.refl _ _) | exact ⟨⟨cells2' HGAV2.out, HOV2.out.cells.2.2.1⟩, (cells3' HZV2.out).1⟩) (fail)
      all_goals
        clear HS7 HUP
        have HST2 : Hid (OvStep s w V2) := HST1.out.drew.grown HGV2.out (.inr (.inl rfl))
        go_wp2_with fail
        obtain ⟨V3, hup, hm, hg⟩ := (HOV2.out.base.drew).del HK.out 0
        have HUP : (Builtin.delete_ #[52, 29] 0 #[.map (some s.X), .agg #[.int .i64 h, .int .i64 p]]).run Tryd.prog V2.drew = .ok (.tuple #[]) V3 := hup
        have HMV3 : Hid (MapL V3 s.X (cutL ({ O with was := putL O.was (h, p) (s0, s1, s2) } : Ov).base (h, p))) := hm
        have HGV3 : Hid (V2.drew.grownBy V3 (some s.X)) := hg
        clear hup hm hg
        have HS6 : Hid (∀ w', Below V2.heap.size V2 w' → (w'.cell? ⟨A, 0, none⟩ = some (.int .i64 h) ∧ w'.cell? ⟨A, 1, none⟩ = some (.int .i64 p)) ∧ w'.cell? ⟨q, 1, none⟩ = some (.map (some s.X))) := fun w' hb => ⟨cells2' ((hb.block A (lt_of_heap HGAV2.out)).trans HGAV2.out), (HOV2.out.kept hb).cells.2.1⟩
        have HOV3 : Hid (OvAt V3 q s ({ O with was := putL O.was (h, p) (s0, s1, s2), base := cutL O.base (h, p) })) := HOV2.out.drew.baseTo HGV3.out HMV3.out
        have HGAV3 : Hid (V3.heap[A]? = some (.cells #[.int .i64 h, .int .i64 p] 29 (0, 0))) := (grown_block HGV3.out (lt_of_heap HGAV2.out) (ne_map (w := V2) HGAV2.out HOV2.out.base)).trans HGAV2.out
        go_region_held3 (fun w' => (w'.cell? ⟨A, 0, none⟩ = some (.int .i64 h) ∧ w'.cell? ⟨A, 1, none⟩ = some (.int .i64 p)) ∧ w'.cell? ⟨q, 1, none⟩ = some (.map (some s.X))) (first | exact HS6.out _ (Below.refl _ _).drew | exact HS6.out _ (Below.refl _ _) | exact ⟨cells2' HGAV3.out, HOV3.out.cells.2.1⟩) (fail)
        all_goals
          clear HS6 HUP
          have HST3 : Hid (OvStep s w V3) := HST2.out.drew.grown HGV3.out (.inl rfl)
          go_wp2
          go_ret
          exact ⟨rfl, HOV3.out, HST3.out⟩
end Go.Proofs.YtjhkcdnfnmglhaaDoor

/- Contract of an overlay's Sum. -/
namespace Go.Proofs.YtjhkcdnfnmglhaaDoor
open Go.RowKit Go.Maps
set_option linter.unusedVariables false
set_option maxRecDepth 20000
end Go.Proofs.YtjhkcdnfnmglhaaDoor

/- Contract of an overlay's Drop. -/
namespace Go.Proofs.YtjhkcdnfnmglhaaDoor
open Go.RowKit Go.Maps
set_option linter.unusedVariables false
set_option maxRecDepth 20000

set_option maxHeartbeats 2000000 in
theorem drop12_any (w : World) (q : Nat) (s : OvB) (O : Ov) (t : Int) (h p : Int) (hO : OvAt w q s O) (hk : KI (h, p)) (hl : OvSmall O) (hok : OvOk O t) (ht : Steps w) (hm : ∀ m ∈ O.fresh, I64 m.s) :
    Calls Tryd.prog 8 #[.pointer (some ⟨q, 0, none⟩), .agg #[.int .i64 h, .int .i64 p]] w fun x w' => x = .returned (.bool (dropO O (h, p)).2) ∧ OvAt w' q s (dropO O (h, p)).1 ∧ OvStep s w w' := by
  have HK : Hid (KI (h, p)) := hk
  have HO : Hid (OvAt w q s O) := hO
  have HLEN : Hid (O.base.length ≤ 490 ∧ O.was.length ≤ 490 ∧ O.fresh.length ≤ 490) := hl
  have HT : Hid (Steps w) := ht
  rcases hf : findM O.fresh (h, p) with _ | ⟨s0, s1, s2⟩
  · have HG : Hid (dropO O (h, p) = (retireO O (h, p), (findM O.base (h, p)).isSome)) := by unfold Hid dropO; rw [hf]
    rw [HG.out]
    have HLB : Hid (∀ W', MapL W' s.Z O.fresh → (Instr.lookup 52 (.map (some s.Z)) (.agg #[.int .i64 h, .int .i64 p]) true).run Tryd.prog W' = .ok (.tuple #[.agg #[.int .i64 0, .int .i64 0, .int .u32 0], .bool false]) W') := fun W' hm => by
      have h9 := hm.look (k := (h, p)) HK.out
      rw [hf] at h9
      exact h9
    clear hf HG hO hk hl hok ht hm
    go_enter Tryd.func8, Tryd.ntmps8
    go_wp2_with fail
    obtain ⟨V, hW⟩ : ∃ W, W = w.alloc (.cells #[.int .i64 h, .int .i64 p] 29) := ⟨_, rfl⟩
    have HB0 : Hid (Below w.heap.size w V) := by rw [hW]; exact (Below.refl _ _).alloc (Nat.le_refl _) _
    have HGA : Hid (V.heap[w.heap.size]? = some (.cells #[.int .i64 h, .int .i64 p] 29 (0, 0))) := by rw [hW]; exact heap_alloc_new w _
    have HOV : Hid (OvAt V q s O) := HO.out.kept HB0.out
    rw [← hW]
    obtain ⟨A, hA⟩ : ∃ A, A = w.heap.size := ⟨_, rfl⟩
    rw [← hA] at HGA
    try rw [← hA]
    have HA : Hid (A = w.heap.size) := hA
    clear hW hA
    have HS9 : Hid (∀ w', Below V.heap.size V w' → (w'.cell? ⟨A, 0, none⟩ = some (.int .i64 h) ∧ w'.cell? ⟨A, 1, none⟩ = some (.int .i64 p)) ∧ w'.cell? ⟨q, 3, none⟩ = some (.map (some s.Z)) ∧ (Instr.lookup 52 (.map (some s.Z)) (.agg #[.int .i64 h, .int .i64 p]) true).run Tryd.prog w' = .ok (.tuple #[.agg #[.int .i64 0, .int .i64 0, .int .u32 0], .bool false]) w') := fun w' hb => ⟨cells2' ((hb.block A (lt_of_heap HGA.out)).trans HGA.out), (HOV.out.kept hb).cells.2.2.2, HLB.out w' (HOV.out.fresh.kept hb)⟩
    go_region_held3 (fun w' => (w'.cell? ⟨A, 0, none⟩ = some (.int .i64 h) ∧ w'.cell? ⟨A, 1, none⟩ = some (.int .i64 p)) ∧ w'.cell? ⟨q, 3, none⟩ = some (.map (some s.Z)) ∧ (Instr.lookup 52 (.map (some s.Z)) (.agg #[.int .i64 h, .int .i64 p]) true).run Tryd.prog w' = .ok (.tuple #[.agg #[.int .i64 0, .int .i64 0, .int .u32 0], .bool false]) w') (first | exact HS9.out _ (Below.refl _ _).drew | exact HS9.out _ ((Below.refl _ _).drew.alloc (Nat.le_refl _) _)) (fail)
    all_goals
      have HZV1 : Hid ((V.alloc (.cells #[.int .i64 0, .int .i64 0, .int .u32 0] 34)).drew.heap[V.heap.size]? = some (.cells #[.int .i64 0, .int .i64 0, .int .u32 0] 34 (0, 0))) := heap_alloc_new V _
      have HBV1 : Hid (Below V.heap.size V (V.alloc (.cells #[.int .i64 0, .int .i64 0, .int .u32 0] 34)).drew) := ((Below.refl _ _).alloc (Nat.le_refl _) _).drew
      generalize (V.alloc (.cells #[.int .i64 0, .int .i64 0, .int .u32 0] 34)).drew = V1 at *
      obtain ⟨Zb, hZb⟩ : ∃ Zb, Zb = V.heap.size := ⟨_, rfl⟩
      have HGV1 : Hid (Zb = V.heap.size) := hZb
      rw [← hZb] at HZV1
      try rw [← hZb]
      clear hZb HS9
      have HOE : Hid (OvAt V1 q s O) := HOV.out.kept HBV1.out
      have HST : Hid (OvStep s w V1) := .ofBelow (HB0.out.trans (HBV1.out.mono HB0.out.size))
      obtain ⟨k0, k1⟩ := cells2' ((HBV1.out.block A (lt_of_heap HGA.out)).trans HGA.out)
      have HRE := retire12_any V1 q s O h p HOE.out HK.out HLEN.out
      go_wp2_with fail
      refine HRE.mono ?_
      rintro x V2 ⟨rfl, ho2, hs2⟩
      have HO2 : Hid (OvAt V2 q s (retireO O (h, p))) := ho2
      have HS2 : Hid (OvStep s w V2) := HST.out.trans hs2
      clear ho2 hs2 HRE k0 k1
      go_wp2
      go_ret
      exact ⟨rfl, HO2.out, HS2.out⟩
  · have hb : findM O.base (h, p) = none := by
      cases hb : findM O.base (h, p) with
      | none => rfl
      | some e => have := (hok.apart _ _ hb).2; rw [hf] at this; cases this
    have HG : Hid (dropO O (h, p) = (cutF O (h, p) s0, true)) := by unfold Hid dropO; rw [hf]; show (retireO (cutF O (h, p) s0) (h, p), true) = _; rw [retire_none (by exact hb)]
    rw [HG.out]
    have HGG : Hid (GoodG O.n O.B [s0]) := slot_good hok (c := 2) (k := (h, p)) (e := (s0, s1, s2)) ⟨by decide, hf⟩
    have HI : Hid (I64 s0) := hm _ (find_mem hf)
    have HLB : Hid (∀ W', MapL W' s.Z O.fresh → (Instr.lookup 52 (.map (some s.Z)) (.agg #[.int .i64 h, .int .i64 p]) true).run Tryd.prog W' = .ok (.tuple #[.agg #[.int .i64 s0, .int .i64 s1, .int .u32 (s2 : Nat)], .bool true]) W') := fun W' hm => by
      have h9 := hm.look (k := (h, p)) HK.out
      rw [hf] at h9
      exact h9
    clear hf HG hb hO hk hl hok ht hm
    go_enter Tryd.func8, Tryd.ntmps8
    go_wp2_with fail
    obtain ⟨V, hW⟩ : ∃ W, W = w.alloc (.cells #[.int .i64 h, .int .i64 p] 29) := ⟨_, rfl⟩
    have HB0 : Hid (Below w.heap.size w V) := by rw [hW]; exact (Below.refl _ _).alloc (Nat.le_refl _) _
    have HGA : Hid (V.heap[w.heap.size]? = some (.cells #[.int .i64 h, .int .i64 p] 29 (0, 0))) := by rw [hW]; exact heap_alloc_new w _
    have HOV : Hid (OvAt V q s O) := HO.out.kept HB0.out
    rw [← hW]
    obtain ⟨A, hA⟩ : ∃ A, A = w.heap.size := ⟨_, rfl⟩
    rw [← hA] at HGA
    try rw [← hA]
    have HA : Hid (A = w.heap.size) := hA
    clear hW hA
    have HS9 : Hid (∀ w', Below V.heap.size V w' → (w'.cell? ⟨A, 0, none⟩ = some (.int .i64 h) ∧ w'.cell? ⟨A, 1, none⟩ = some (.int .i64 p)) ∧ w'.cell? ⟨q, 3, none⟩ = some (.map (some s.Z)) ∧ (Instr.lookup 52 (.map (some s.Z)) (.agg #[.int .i64 h, .int .i64 p]) true).run Tryd.prog w' = .ok (.tuple #[.agg #[.int .i64 s0, .int .i64 s1, .int .u32 (s2 : Nat)], .bool true]) w') := fun w' hb => ⟨cells2' ((hb.block A (lt_of_heap HGA.out)).trans HGA.out), (HOV.out.kept hb).cells.2.2.2, HLB.out w' (HOV.out.fresh.kept hb)⟩
    go_region_held3 (fun w' => (w'.cell? ⟨A, 0, none⟩ = some (.int .i64 h) ∧ w'.cell? ⟨A, 1, none⟩ = some (.int .i64 p)) ∧ w'.cell? ⟨q, 3, none⟩ = some (.map (some s.Z)) ∧ (Instr.lookup 52 (.map (some s.Z)) (.agg #[.int .i64 h, .int .i64 p]) true).run Tryd.prog w' = .ok (.tuple #[.agg #[.int .i64 s0, .int .i64 s1, .int .u32 (s2 : Nat)], .bool true]) w') (first | exact HS9.out _ (Below.refl _ _).drew | exact HS9.out _ ((Below.refl _ _).drew.alloc (Nat.le_refl _) _)) (fail)
    all_goals
      have HZV1 : Hid ((V.alloc (.cells #[.int .i64 s0, .int .i64 s1, .int .u32 (s2 : Nat)] 34)).drew.heap[V.heap.size]? = some (.cells #[.int .i64 s0, .int .i64 s1, .int .u32 (s2 : Nat)] 34 (0, 0))) := heap_alloc_new V _
      have HBV1 : Hid (Below V.heap.size V (V.alloc (.cells #[.int .i64 s0, .int .i64 s1, .int .u32 (s2 : Nat)] 34)).drew) := ((Below.refl _ _).alloc (Nat.le_refl _) _).drew
      generalize (V.alloc (.cells #[.int .i64 s0, .int .i64 s1, .int .u32 (s2 : Nat)] 34)).drew = V1 at *
      obtain ⟨Zb, hZb⟩ : ∃ Zb, Zb = V.heap.size := ⟨_, rfl⟩
      have HGV1 : Hid (Zb = V.heap.size) := hZb
      rw [← hZb] at HZV1
      try rw [← hZb]
      clear hZb HS9
      have HOV1 : Hid (OvAt V1 q s O) := HOV.out.kept HBV1.out
      have HGA1 : Hid (V1.heap[A]? = some (.cells #[.int .i64 h, .int .i64 p] 29 (0, 0))) := (HBV1.out.block A (lt_of_heap HGA.out)).trans HGA.out
      have HST1 : Hid (OvStep s w V1) := .ofBelow (HB0.out.trans (HBV1.out.mono HB0.out.size))
      have HT1 : Hid (Steps V1) := HT.out.ov HO.out HST1.out
      have HSG : Hid (∀ w', Below V1.heap.size V1 w' → w'.cell? ⟨q, 0, none⟩ = some (.pointer (some ⟨s.h, 0, none⟩)) ∧ w'.cell? ⟨Zb, 0, none⟩ = some (.int .i64 s0)) := fun w' hb => ⟨(HOV1.out.kept hb).cells.1, (cells3' ((hb.block Zb (lt_of_heap HZV1.out)).trans HZV1.out)).1.1⟩
      have HGI : Hid (∀ W, Below V1.heap.size V1 W → Calls Tryd.prog 20 #[.pointer (some ⟨s.h, 0, none⟩), .slice (some ⟨W.heap.size, 0, none⟩) 1 1] (W.alloc (.cells #[.int .i64 s0] 3)) fun x w' => x = .returned (.int .i64 0) ∧ BoardAt w' s.h s.p s.b s.f s.cap O.n (giveB O.B [s0]) ∧ Only2 s.b s.f V1 w') := fun W hb => by
        have hb2 : Below V1.heap.size V1 (W.alloc (.cells #[.int .i64 s0] 3)) := hb.alloc hb.size _
        have ho := HOV1.out.kept hb2
        have hob := HOV1.out.kept hb
        have l1 := lt_of_heap hob.board.row.body
        have l2 : s.f < W.heap.size := by obtain ⟨cur, h2, _⟩ := hob.board.nums; exact lt_of_heap h2
        refine (give_any _ s.h s.p s.b s.f s.cap O.n O.B _ [s0] ho.board (HT1.out.below hb2) (Nums.one HI.out) (by simp [Value.ownBlock]; omega) (by simp [Value.ownBlock]; omega) ho.pos).mono ?_
        rintro x w' ⟨⟨-, rfl, h3⟩ | ⟨h3, -⟩, h4⟩
        · exact ⟨rfl, h3, (Only2.ofBelow hb2).trans h4⟩
        · exact absurd HGG.out h3
      go_wp2_with fail
      go_region_held3 (fun w' => w'.cell? ⟨q, 0, none⟩ = some (.pointer (some ⟨s.h, 0, none⟩)) ∧ w'.cell? ⟨Zb, 0, none⟩ = some (.int .i64 s0)) (first | exact HSG.out _ (Below.refl _ _).drew | exact HSG.out _ ((Below.refl _ _).drew.alloc (Nat.le_refl _) _) | exact HSGE) (first
        | (go_at_call 20; refine (HGI.out _ (Below.refl _ _).drew).mono ?_; rintro x V2 ⟨rfl, hbo, hon⟩
           have HOV2 : Hid (OvAt V2 q s { O with B := giveB O.B [s0] }) := HOV1.out.boardTo hon hbo
           have HZ0 := HOV1.out.headOff
           have HGA2 : Hid (V2.heap[A]? = some (.cells #[.int .i64 h, .int .i64 p] 29 (0, 0))) := (hon.heap (lt_of_heap HGA1.out) (ne_type HGA1.out HOV1.out.board.row.body (by decide)) (free_ne HGA1.out HOV1.out.board (by decide))).trans HGA1.out
           have HZ2 : Hid (V2.heap[Zb]? = some (.cells #[.int .i64 s0, .int .i64 s1, .int .u32 (s2 : Nat)] 34 (0, 0))) := (hon.heap (lt_of_heap HZV1.out) (ne_type HZV1.out HOV1.out.board.row.body (by decide)) (free_ne HZV1.out HOV1.out.board (by decide))).trans HZV1.out
           have HST2 : Hid (OvStep s w V2) := HST1.out.trans (.ofOnly2 hon)
           have HSGE : V2.cell? ⟨q, 0, none⟩ = some (.pointer (some ⟨s.h, 0, none⟩)) ∧ V2.cell? ⟨Zb, 0, none⟩ = some (.int .i64 s0) := ⟨HOV2.out.cells.1, (cells3' HZ2.out).1.1⟩
           clear hbo hon HZ0))
      all_goals
        clear HSGE HSG HGI
        go_wp2_with fail
        obtain ⟨V3, hup, hm, hg⟩ := (HOV2.out.fresh.drew).del HK.out 0
        have HUP : (Builtin.delete_ #[52, 29] 0 #[.map (some s.Z), .agg #[.int .i64 h, .int .i64 p]]).run Tryd.prog V2.drew = .ok (.tuple #[]) V3 := hup
        have HMV3 : Hid (MapL V3 s.Z (cutL ({ O with B := giveB O.B [s0] } : Ov).fresh (h, p))) := hm
        have HGV3 : Hid (V2.drew.grownBy V3 (some s.Z)) := hg
        clear hup hm hg
        have HS6 : Hid (∀ w', Below V2.heap.size V2 w' → (w'.cell? ⟨A, 0, none⟩ = some (.int .i64 h) ∧ w'.cell? ⟨A, 1, none⟩ = some (.int .i64 p)) ∧ w'.cell? ⟨q, 3, none⟩ = some (.map (some s.Z))) := fun w' hb => ⟨cells2' ((hb.block A (lt_of_heap HGA2.out)).trans HGA2.out), (HOV2.out.kept hb).cells.2.2.2⟩
        have HOV3 : Hid (OvAt V3 q s ({ O with B := giveB O.B [s0], fresh := cutL O.fresh (h, p) })) := HOV2.out.drew.freshTo HGV3.out HMV3.out
        have HGAV3 : Hid (V3.heap[A]? = some (.cells #[.int .i64 h, .int .i64 p] 29 (0, 0))) := (grown_block HGV3.out (lt_of_heap HGA2.out) (ne_map (w := V2) HGA2.out HOV2.out.fresh)).trans HGA2.out
        go_region_held3 (fun w' => (w'.cell? ⟨A, 0, none⟩ = some (.int .i64 h) ∧ w'.cell? ⟨A, 1, none⟩ = some (.int .i64 p)) ∧ w'.cell? ⟨q, 3, none⟩ = some (.map (some s.Z))) (first | exact HS6.out _ (Below.refl _ _).drew | exact HS6.out _ (Below.refl _ _) | exact ⟨cells2' HGAV3.out, HOV3.out.cells.2.2.2⟩) (fail)
        all_goals
          clear HS6 HUP
          have HST3 : Hid (OvStep s w V3) := HST2.out.drew.grown HGV3.out (.inr (.inr rfl))
          go_wp2
          go_ret
          exact ⟨rfl, HOV3.out, HST3.out⟩
end Go.Proofs.YtjhkcdnfnmglhaaDoor

/- Contract of an overlay's Put. -/
namespace Go.Proofs.YtjhkcdnfnmglhaaDoor
open Go.RowKit Go.Maps
set_option linter.unusedVariables false
set_option maxRecDepth 20000

theorem ne_ent {w : World} {q : Nat} {s : OvB} {O : Ov} {E : Nat} {C : Array Value} {g : Nat × Nat} (h : OvAt w q s O) (hz : w.heap[E]? = some (.cells C 34 g)) : (q ≠ E ∧ s.h ≠ E ∧ s.p ≠ E ∧ s.b ≠ E ∧ s.f ≠ E) ∧ s.X ≠ E ∧ s.Y ≠ E ∧ s.Z ≠ E := by
  obtain ⟨cur, h2, _⟩ := h.board.nums
  exact ⟨⟨ne_type h.head hz (by decide), ne_type h.board.head hz (by decide), ne_type h.board.row.head hz (by decide), ne_type h.board.row.body hz (by decide), ne_type h2 hz (by decide)⟩, (ne_map hz h.base).symm, (ne_map hz h.was).symm, (ne_map hz h.fresh).symm⟩
theorem OvAt.over {w w' : World} {q : Nat} {s : OvB} {O : Ov} {E : Nat} {C : Array Value} {g : Nat × Nat} (h : OvAt w q s O) (hz : w.heap[E]? = some (.cells C 34 g)) (hk : ∀ i, i ≠ E → w'.heap[i]? = w.heap[i]?) : OvAt w' q s O := by
  obtain ⟨⟨a, b, c, d, e⟩, x, y, z⟩ := ne_ent h hz
  exact {
    head := (hk q a).trans h.head
    board := h.board.same (hk _ b) (hk _ c) (hk _ d) (hk _ e)
    base := h.base.same (hk _ x)
    was := h.was.same (hk _ y)
    fresh := h.fresh.same (hk _ z)
    ne := h.ne
    pos := h.pos }
theorem OvAt.set3 {w : World} {q : Nat} {s : OvB} {O : Ov} {E : Nat} {C : Array Value} {g : Nat × Nat} (h : OvAt w q s O) (hz : w.heap[E]? = some (.cells C 34 g)) (x y z : Value) : OvAt (((w.setCell ⟨E, 0, none⟩ x).setCell ⟨E, 1, none⟩ y).setCell ⟨E, 2, none⟩ z) q s O :=
  h.over hz fun i hi => (Below.heap_setCell _ ⟨E, 2, none⟩ z i hi).trans ((Below.heap_setCell _ ⟨E, 1, none⟩ y i hi).trans (Below.heap_setCell _ ⟨E, 0, none⟩ x i hi))
theorem field_gen (a b : Int) (c : Nat) (w : World) : (Instr.field 34 (.agg #[.int .i64 a, .int .i64 b, .int .u32 (c : Nat)]) 1).run Tryd.prog w = .ok (.int .i64 b) w := by kernel_rfl
theorem retire_B12 (O : Ov) (B : Nat → Bool) (k : Ky) : retireO { O with B := B } k = { retireO O k with B := B } := by
  cases h : findM O.base k with
  | none => rw [retire_none h, retire_none (O := { O with B := B }) h]
  | some e => rw [retire_some h, retire_some (O := { O with B := B }) h]
set_option maxHeartbeats 4000000 in
theorem put12_any (w : World) (q : Nat) (s : OvB) (O : Ov) (t : Int) (h p : Int) (hO : OvAt w q s O) (hk : KI (h, p)) (hl : OvSmall O) (hok : OvOk O t) (ht : Steps w) (h0 : 0 ≤ t) (ht9 : t ≤ 900000000000000) :
    Calls Tryd.prog 7 #[.pointer (some ⟨q, 0, none⟩), .agg #[.int .i64 h, .int .i64 p]] w fun x w' => ∃ O' e err, x = .returned (.tuple #[evalE e, .int .i64 err]) ∧ PutRel O (h, p) O' e err ∧ OvAt w' q s O' ∧ OvStep s w w' := by
  have HK : Hid (KI (h, p)) := hk
  have HO : Hid (OvAt w q s O) := hO
  have HLEN : Hid (O.base.length ≤ 490 ∧ O.was.length ≤ 490 ∧ O.fresh.length ≤ 490) := hl
  have HT : Hid (Steps w) := ht
  have HRI : Hid (∀ W, Calls Tryd.prog 17 #[.agg #[.int .i64 h, .int .i64 p]] W fun e w' => e = .returned (.bool (isR (h, p))) ∧ Below W.heap.size W w') := right_any h p
  rcases hr : isR (h, p) with _ | _
  · have HPR : Hid (PutRel O (h, p) O (0, 0, 0) 2) := .inl ⟨hr, rfl, rfl, rfl⟩
    rw [hr] at HRI
    clear hr hO hk hl hok ht h0 ht9
    go_enter Tryd.func7, Tryd.ntmps7
    go_wp2_with fail
    obtain ⟨Va, hW⟩ : ∃ W, W = (w.alloc (.cells #[.int .i64 h, .int .i64 p] 29)).alloc (.cells #[.int .i64 0, .int .i64 0, .int .u32 0] 34) := ⟨_, rfl⟩
    have hs : (w.alloc (.cells #[.int .i64 h, .int .i64 p] 29)).heap.size = w.heap.size + 1 := by simp
    have HB0 : Hid (Below w.heap.size w Va) := by rw [hW]; exact ((Below.refl _ _).alloc (Nat.le_refl _) _).alloc (by simp) _
    have HGA : Hid (Va.heap[w.heap.size]? = some (.cells #[.int .i64 h, .int .i64 p] 29 (0, 0))) := by
      rw [hW]
      exact (((Below.refl _ _).alloc (Nat.le_refl _) _ : Below _ (w.alloc (.cells #[.int .i64 h, .int .i64 p] 29)) _).block w.heap.size (by simp)).trans (heap_alloc_new w _)
    have HGE : Hid (Va.heap[w.heap.size + 1]? = some (.cells #[.int .i64 0, .int .i64 0, .int .u32 0] 34 (0, 0))) := by
      have := heap_alloc_new (w.alloc (.cells #[.int .i64 h, .int .i64 p] 29)) (.cells #[.int .i64 0, .int .i64 0, .int .u32 0] 34)
      rw [hs] at this
      rw [hW]; exact this
    have HOV : Hid (OvAt Va q s O) := HO.out.kept HB0.out
    rw [← hW]
    try rw [hs]
    obtain ⟨A, hA⟩ : ∃ A, A = w.heap.size := ⟨_, rfl⟩
    obtain ⟨E, hE⟩ : ∃ E, E = A + 1 := ⟨_, rfl⟩
    rw [← hA] at HGA HGE
    rw [← hE] at HGE
    try rw [← hA]
    try rw [← hE]
    have HA : Hid (A = w.heap.size) := hA
    have HE : Hid (E = A + 1) := hE
    clear hW hs hA hE
    refine (HRI.out Va).mono ?_
    rintro e V ⟨rfl, hbV⟩
    have HBV0 : Hid (Below w.heap.size w V) := HB0.out.trans (hbV.mono HB0.out.size)
    have HOVV : Hid (OvAt V q s O) := HOV.out.kept hbV
    have HGAV : Hid (V.heap[A]? = some (.cells #[.int .i64 h, .int .i64 p] 29 (0, 0))) := (hbV.block A (lt_of_heap HGA.out)).trans HGA.out
    have HGEV : Hid (V.heap[E]? = some (.cells #[.int .i64 0, .int .i64 0, .int .u32 0] 34 (0, 0))) := (hbV.block E (lt_of_heap HGE.out)).trans HGE.out
    have HEL : Hid (w.heap.size ≤ E) := by have := HA.out; have := HE.out; unfold Hid; omega
    have HSTV : Hid (OvStep s w V) := .ofBelow HBV0.out
    clear hbV HRI
    have HSTE : Hid (OvStep s w V) := HSTV.out
    have HZE := HGEV
    obtain ⟨⟨z0, z1, z2⟩, zf⟩ := cells3' HZE.out
    have f0 := zf 0
    have f1 := zf 1
    have f2 := zf 2
    clear zf
    have HOF : Hid (∀ x y z, OvAt (((V.setCell ⟨E, 0, none⟩ x).setCell ⟨E, 1, none⟩ y).setCell ⟨E, 2, none⟩ z) q s (O)) := fun x y z => HOVV.out.set3 HZE.out x y z
    have HSF : Hid (∀ x y z, OvStep s w (((V.setCell ⟨E, 0, none⟩ x).setCell ⟨E, 1, none⟩ y).setCell ⟨E, 2, none⟩ z)) := fun x y z => ((HSTE.out.setNew HEL.out x).setNew HEL.out y).setNew HEL.out z
    go_wp2
    first
      | refine bodyPost_ret (v := .tuple #[.agg #[.int .i64 _, .int .i64 _, .int .u32 _], .int .i64 _]) (results_cell2 rfl rfl rfl (load_ent (set_three _ _ _ z0 z1 z2).1 (set_three _ _ _ z0 z1 z2).2.1 (set_three _ _ _ z0 z1 z2).2.2)) rfl ⟨O, (0, 0, 0), 2, rfl, HPR.out, HOF.out _ _ _, HSF.out _ _ _⟩
      | refine bodyPost_ret (v := .tuple #[.agg #[.int .i64 _, .int .i64 _, .int .u32 _], .int .i64 _]) (results_cell2 rfl rfl rfl (load_ent (set_three _ _ _ z0 z1 z2).1 (set_three _ _ _ z0 z1 z2).2.1 (set_three _ _ _ z0 z1 z2).2.2)) rfl ⟨O, 0, 0, 0, 2, rfl, HPR.out, HOF.out _ _ _, HSF.out _ _ _⟩
  · rw [hr] at HRI
    rcases hf : findM O.fresh (h, p) with _ | ⟨s0, s1, s2⟩
    · have HGB : Hid (0 ≤ genO O (h, p) ∧ genO O (h, p) ≤ 900000000000000) := by have := genO_bd hok h0 (h, p); exact ⟨this.1, Int.le_trans this.2 ht9⟩
      have HP3 : Hid ((∀ i, i < O.n → O.B i = true) → PutRel O (h, p) O (0, 0, 0) 12) := fun hall => .inr (.inr (.inl ⟨hr, hf, hall, rfl, rfl, rfl⟩))
      have HP4 : Hid (∀ n : Nat, IsTake O.B O.n n → PutRel O (h, p) (addF (retireO O (h, p)) (h, p) n (genO O (h, p) + 1) 0) ((n : Int), genO O (h, p) + 1, 0) 0) := fun n hn => .inr (.inr (.inr ⟨hr, hf, n, hn, rfl, rfl, rfl⟩))
      have HLB : Hid (∀ W', MapL W' s.Z O.fresh → (Instr.lookup 52 (.map (some s.Z)) (.agg #[.int .i64 h, .int .i64 p]) true).run Tryd.prog W' = .ok (.tuple #[.agg #[.int .i64 0, .int .i64 0, .int .u32 0], .bool false]) W') := fun W' hm => by
        have h9 := hm.look (k := (h, p)) HK.out
        rw [hf] at h9
        exact h9
      clear hf hr hO hk hl hok ht h0 ht9
      go_enter Tryd.func7, Tryd.ntmps7
      go_wp2_with fail
      obtain ⟨Va, hW⟩ : ∃ W, W = (w.alloc (.cells #[.int .i64 h, .int .i64 p] 29)).alloc (.cells #[.int .i64 0, .int .i64 0, .int .u32 0] 34) := ⟨_, rfl⟩
      have hs : (w.alloc (.cells #[.int .i64 h, .int .i64 p] 29)).heap.size = w.heap.size + 1 := by simp
      have HB0 : Hid (Below w.heap.size w Va) := by rw [hW]; exact ((Below.refl _ _).alloc (Nat.le_refl _) _).alloc (by simp) _
      have HGA : Hid (Va.heap[w.heap.size]? = some (.cells #[.int .i64 h, .int .i64 p] 29 (0, 0))) := by
        rw [hW]
        exact (((Below.refl _ _).alloc (Nat.le_refl _) _ : Below _ (w.alloc (.cells #[.int .i64 h, .int .i64 p] 29)) _).block w.heap.size (by simp)).trans (heap_alloc_new w _)
      have HGE : Hid (Va.heap[w.heap.size + 1]? = some (.cells #[.int .i64 0, .int .i64 0, .int .u32 0] 34 (0, 0))) := by
        have := heap_alloc_new (w.alloc (.cells #[.int .i64 h, .int .i64 p] 29)) (.cells #[.int .i64 0, .int .i64 0, .int .u32 0] 34)
        rw [hs] at this
        rw [hW]; exact this
      have HOV : Hid (OvAt Va q s O) := HO.out.kept HB0.out
      rw [← hW]
      try rw [hs]
      obtain ⟨A, hA⟩ : ∃ A, A = w.heap.size := ⟨_, rfl⟩
      obtain ⟨E, hE⟩ : ∃ E, E = A + 1 := ⟨_, rfl⟩
      rw [← hA] at HGA HGE
      rw [← hE] at HGE
      try rw [← hA]
      try rw [← hE]
      have HA : Hid (A = w.heap.size) := hA
      have HE : Hid (E = A + 1) := hE
      clear hW hs hA hE
      refine (HRI.out Va).mono ?_
      rintro e V ⟨rfl, hbV⟩
      have HBV0 : Hid (Below w.heap.size w V) := HB0.out.trans (hbV.mono HB0.out.size)
      have HOVV : Hid (OvAt V q s O) := HOV.out.kept hbV
      have HGAV : Hid (V.heap[A]? = some (.cells #[.int .i64 h, .int .i64 p] 29 (0, 0))) := (hbV.block A (lt_of_heap HGA.out)).trans HGA.out
      have HGEV : Hid (V.heap[E]? = some (.cells #[.int .i64 0, .int .i64 0, .int .u32 0] 34 (0, 0))) := (hbV.block E (lt_of_heap HGE.out)).trans HGE.out
      have HEL : Hid (w.heap.size ≤ E) := by have := HA.out; have := HE.out; unfold Hid; omega
      have HSTV : Hid (OvStep s w V) := .ofBelow HBV0.out
      clear hbV HRI
      go_wp2_with fail
      have HS9 : Hid (∀ w', Below V.heap.size V w' → (w'.cell? ⟨A, 0, none⟩ = some (.int .i64 h) ∧ w'.cell? ⟨A, 1, none⟩ = some (.int .i64 p)) ∧ w'.cell? ⟨q, 3, none⟩ = some (.map (some s.Z)) ∧ (Instr.lookup 52 (.map (some s.Z)) (.agg #[.int .i64 h, .int .i64 p]) true).run Tryd.prog w' = .ok (.tuple #[.agg #[.int .i64 0, .int .i64 0, .int .u32 0], .bool false]) w') := fun w' hb => ⟨cells2' ((hb.block A (lt_of_heap HGAV.out)).trans HGAV.out), (HOVV.out.kept hb).cells.2.2.2, HLB.out w' (HOVV.out.fresh.kept hb)⟩
      go_region_held3 (fun w' => (w'.cell? ⟨A, 0, none⟩ = some (.int .i64 h) ∧ w'.cell? ⟨A, 1, none⟩ = some (.int .i64 p)) ∧ w'.cell? ⟨q, 3, none⟩ = some (.map (some s.Z)) ∧ (Instr.lookup 52 (.map (some s.Z)) (.agg #[.int .i64 h, .int .i64 p]) true).run Tryd.prog w' = .ok (.tuple #[.agg #[.int .i64 0, .int .i64 0, .int .u32 0], .bool false]) w') (first | exact HS9.out _ (Below.refl _ _).drew | exact HS9.out _ ((Below.refl _ _).drew.alloc (Nat.le_refl _) _)) (fail)
      all_goals
        have HZV1 : Hid ((V.alloc (.cells #[.int .i64 0, .int .i64 0, .int .u32 0] 34)).drew.heap[V.heap.size]? = some (.cells #[.int .i64 0, .int .i64 0, .int .u32 0] 34 (0, 0))) := heap_alloc_new V _
        have HBV1 : Hid (Below V.heap.size V (V.alloc (.cells #[.int .i64 0, .int .i64 0, .int .u32 0] 34)).drew) := ((Below.refl _ _).alloc (Nat.le_refl _) _).drew
        generalize (V.alloc (.cells #[.int .i64 0, .int .i64 0, .int .u32 0] 34)).drew = V1 at *
        obtain ⟨Zb, hZb⟩ : ∃ Zb, Zb = V.heap.size := ⟨_, rfl⟩
        have HGV1 : Hid (Zb = V.heap.size) := hZb
        rw [← hZb] at HZV1
        try rw [← hZb]
        clear hZb HS9
        have HOV1 : Hid (OvAt V1 q s O) := HOVV.out.kept HBV1.out
        have HGA1 : Hid (V1.heap[A]? = some (.cells #[.int .i64 h, .int .i64 p] 29 (0, 0))) := (HBV1.out.block A (lt_of_heap HGAV.out)).trans HGAV.out
        have HGE1 : Hid (V1.heap[E]? = some (.cells #[.int .i64 0, .int .i64 0, .int .u32 0] 34 (0, 0))) := (HBV1.out.block E (lt_of_heap HGEV.out)).trans HGEV.out
        have HST1 : Hid (OvStep s w V1) := HSTV.out.below HBV1.out
        have HT1 : Hid (Steps V1) := HT.out.ov HO.out HST1.out
        have HTK := take_any V1 s.h s.p s.b s.f s.cap O.n O.B HOV1.out.board HT1.out
        obtain ⟨d0, -, -, -⟩ := HOV1.out.cells
        go_wp2_with fail
        refine HTK.mono ?_
        rintro x V2 (⟨k, rfl, hik, hbo, hon⟩ | ⟨rfl, hall, rfl⟩)
        · have HIK : Hid (IsTake O.B O.n k) := hik
          have HPR0 : Hid (PutRel O (h, p) (addF (retireO O (h, p)) (h, p) k (genO O (h, p) + 1) 0) ((k : Int), genO O (h, p) + 1, 0) 0) := HP4.out k hik
          have HEQ : Hid (addF (retireO O (h, p)) (h, p) k (genO O (h, p) + 1) 0 = { retireO O (h, p) with B := putB O.B k 1 true, fresh := putL O.fresh (h, p) ((k : Int), genO O (h, p) + 1, 0) }) := by unfold Hid addF; rw [(retire_n O (h, p)).2, retire_fresh]
          have HPR : Hid (PutRel O (h, p) { retireO O (h, p) with B := putB O.B k 1 true, fresh := putL O.fresh (h, p) ((k : Int), genO O (h, p) + 1, 0) } ((k : Int), genO O (h, p) + 1, 0) 0) := by rw [← HEQ.out]; exact HPR0.out
          have HOV2 : Hid (OvAt V2 q s { O with B := putB O.B k 1 true }) := HOV1.out.boardTo hon hbo
          have HGA2 : Hid (V2.heap[A]? = some (.cells #[.int .i64 h, .int .i64 p] 29 (0, 0))) := (hon.heap (lt_of_heap HGA1.out) (ne_type HGA1.out HOV1.out.board.row.body (by decide)) (free_ne HGA1.out HOV1.out.board (by decide))).trans HGA1.out
          have HGE2 : Hid (V2.heap[E]? = some (.cells #[.int .i64 0, .int .i64 0, .int .u32 0] 34 (0, 0))) := (hon.heap (lt_of_heap HGE1.out) (ne_type HGE1.out HOV1.out.board.row.body (by decide)) (free_ne HGE1.out HOV1.out.board (by decide))).trans HGE1.out
          have HZ2 : Hid (V2.heap[Zb]? = some (.cells #[.int .i64 0, .int .i64 0, .int .u32 0] 34 (0, 0))) := (hon.heap (lt_of_heap HZV1.out) (ne_type HZV1.out HOV1.out.board.row.body (by decide)) (free_ne HZV1.out HOV1.out.board (by decide))).trans HZV1.out
          have HST2 : Hid (OvStep s w V2) := HST1.out.trans (.ofOnly2 hon)
          obtain ⟨k0, k1⟩ := cells2' HGA2.out
          have HRE := retire12_any V2 q s { O with B := putB O.B k 1 true } h p HOV2.out HK.out HLEN.out
          clear d0 HTK hik hbo hon HP3 HP4 HPR0 HEQ
          go_wp2_with fail
          refine HRE.mono ?_
          rintro x V3 ⟨rfl, ho3, hs3⟩
          rw [retire_B12, show ({ retireO O (h, p) with B := putB O.B k 1 true } : Ov) = { retireO O (h, p) with B := putB O.B k 1 true, fresh := O.fresh } from by rw [← retire_fresh O (h, p)]] at ho3
          have HOV3 : Hid (OvAt V3 q s { retireO O (h, p) with B := putB O.B k 1 true, fresh := O.fresh }) := ho3
          have HST3 : Hid (OvStep s w V3) := HST2.out.trans hs3
          have HKP : Hid (∀ (i : Nat) (C : Array Value) (T : TypeId) (g : Nat × Nat), V2.heap[i]? = some (.cells C T g) → T ≠ 3 → T ≠ 86 → V3.heap[i]? = V2.heap[i]?) := fun i C T g hi h1 h2 => hs3.heap (lt_of_heap hi) ⟨ne_type hi HOV2.out.board.row.body h2, free_ne hi HOV2.out.board h1, ne_map hi HOV2.out.base, ne_map hi HOV2.out.was, ne_map hi HOV2.out.fresh⟩
          have HGA3 : Hid (V3.heap[A]? = some (.cells #[.int .i64 h, .int .i64 p] 29 (0, 0))) := (HKP.out A _ _ _ HGA2.out (by decide) (by decide)).trans HGA2.out
          have HGE3 : Hid (V3.heap[E]? = some (.cells #[.int .i64 0, .int .i64 0, .int .u32 0] 34 (0, 0))) := (HKP.out E _ _ _ HGE2.out (by decide) (by decide)).trans HGE2.out
          have HZ3 : Hid (V3.heap[Zb]? = some (.cells #[.int .i64 0, .int .i64 0, .int .u32 0] 34 (0, 0))) := (HKP.out Zb _ _ _ HZ2.out (by decide) (by decide)).trans HZ2.out
          clear ho3 hs3 HRE k0 k1 HKP
          obtain ⟨w0, w1, w2, hwv⟩ : ∃ w0 w1 w2, entV (findM (retireO O (h, p)).was (h, p)) = .agg #[.int .i64 w0, .int .i64 w1, .int .u32 (w2 : Nat)] ∧ w1 = genO O (h, p) := ⟨_, _, _, rfl, rfl⟩
          obtain ⟨hwv, hw1⟩ := hwv
          rw [← hw1] at HPR HGB
          have hwb := HGB.out
          have HLW : Hid (∀ W', MapL W' s.Y (retireO O (h, p)).was → (Instr.lookup 52 (.map (some s.Y)) (.agg #[.int .i64 h, .int .i64 p]) false).run Tryd.prog W' = .ok (.agg #[.int .i64 w0, .int .i64 w1, .int .u32 (w2 : Nat)]) W') := fun W' hm => by
            have h9 := hm.look1 (k := (h, p)) HK.out
            rw [hwv] at h9
            exact h9
          clear hwv hw1
          go_wp2_with fail
          obtain ⟨⟨y0, y1, y2⟩, yf⟩ := cells3' HZ3.out
          have hfld := field_gen w0 w1 w2
          have g0 := yf 0
          have g1' := yf 1
          have g2 := yf 2
          clear yf
          have HSS : Hid (∀ w', OvAt w' q s { retireO O (h, p) with B := putB O.B k 1 true, fresh := O.fresh } → w'.heap[A]? = some (.cells #[.int .i64 h, .int .i64 p] 29 (0, 0)) → (w'.cell? ⟨A, 0, none⟩ = some (.int .i64 h) ∧ w'.cell? ⟨A, 1, none⟩ = some (.int .i64 p)) ∧ w'.cell? ⟨q, 2, none⟩ = some (.map (some s.Y)) ∧ (Instr.lookup 52 (.map (some s.Y)) (.agg #[.int .i64 h, .int .i64 p]) false).run Tryd.prog w' = .ok (.agg #[.int .i64 w0, .int .i64 w1, .int .u32 (w2 : Nat)]) w') := fun w' ho ha => ⟨cells2' ha, ho.cells.2.2.1, HLW.out w' ho.was⟩
          have HO4 : Hid (OvAt ((((V3.setCell ⟨Zb, 0, none⟩ (.int .i64 (k : Nat))).setCell ⟨Zb, 1, none⟩ (.int .i64 w1)).setCell ⟨Zb, 2, none⟩ (.int .u32 0)).drew) q s { retireO O (h, p) with B := putB O.B k 1 true, fresh := O.fresh }) := (HOV3.out.set3 (E := Zb) HZ3.out _ _ _).drew
          have HNA : Hid (A ≠ Zb ∧ E ≠ Zb) := ⟨ne_type HGA3.out HZ3.out (by decide), fun e => by have := HGV1.out; have := lt_of_heap HGEV.out; omega⟩
          have HS4 : Hid (∀ i, i ≠ Zb → ((((V3.setCell ⟨Zb, 0, none⟩ (.int .i64 (k : Nat))).setCell ⟨Zb, 1, none⟩ (.int .i64 w1)).setCell ⟨Zb, 2, none⟩ (.int .u32 0)).drew).heap[i]? = V3.heap[i]?) := fun i hi => (Below.heap_setCell _ ⟨Zb, 2, none⟩ _ i hi).trans ((Below.heap_setCell _ ⟨Zb, 1, none⟩ _ i hi).trans (Below.heap_setCell _ ⟨Zb, 0, none⟩ _ i hi))
          have HGA4 : Hid (((((V3.setCell ⟨Zb, 0, none⟩ (.int .i64 (k : Nat))).setCell ⟨Zb, 1, none⟩ (.int .i64 w1)).setCell ⟨Zb, 2, none⟩ (.int .u32 0)).drew).heap[A]? = some (.cells #[.int .i64 h, .int .i64 p] 29 (0, 0))) := (HS4.out A HNA.out.1).trans HGA3.out
          have HGE4 : Hid (((((V3.setCell ⟨Zb, 0, none⟩ (.int .i64 (k : Nat))).setCell ⟨Zb, 1, none⟩ (.int .i64 w1)).setCell ⟨Zb, 2, none⟩ (.int .u32 0)).drew).heap[E]? = some (.cells #[.int .i64 0, .int .i64 0, .int .u32 0] 34 (0, 0))) := (HS4.out E HNA.out.2).trans HGE3.out
          have HZ4 : Hid (((((V3.setCell ⟨Zb, 0, none⟩ (.int .i64 (k : Nat))).setCell ⟨Zb, 1, none⟩ (.int .i64 w1)).setCell ⟨Zb, 2, none⟩ (.int .u32 0)).drew).heap[Zb]? = some (.cells #[.int .i64 (k : Nat), .int .i64 w1, .int .u32 0] 34 (0, 0))) := (heap_set_row (heap_set_row (heap_set_row HZ3.out 0 _) 1 _) 2 _).trans rfl
          have HZL : Hid (w.heap.size ≤ Zb) := by have := HGV1.out; have := HBV0.out.size; unfold Hid; omega
          have HST4 : Hid (OvStep s w ((((V3.setCell ⟨Zb, 0, none⟩ (.int .i64 (k : Nat))).setCell ⟨Zb, 1, none⟩ (.int .i64 w1)).setCell ⟨Zb, 2, none⟩ (.int .u32 0)).drew)) := (((HST3.out.setNew (p := ⟨Zb, 0, none⟩) HZL.out _).setNew (p := ⟨Zb, 1, none⟩) HZL.out _).setNew (p := ⟨Zb, 2, none⟩) HZL.out _).drew
          go_region_held3 (fun w' => (w'.cell? ⟨A, 0, none⟩ = some (.int .i64 h) ∧ w'.cell? ⟨A, 1, none⟩ = some (.int .i64 p)) ∧ w'.cell? ⟨q, 2, none⟩ = some (.map (some s.Y)) ∧ (Instr.lookup 52 (.map (some s.Y)) (.agg #[.int .i64 h, .int .i64 p]) false).run Tryd.prog w' = .ok (.agg #[.int .i64 w0, .int .i64 w1, .int .u32 (w2 : Nat)]) w') (first | exact HSS.out _ HOV3.out.drew HGA3.out | exact HSS.out _ HO4.out HGA4.out) (fail)
          all_goals
            clear hfld HSS y0 y1 y2 g0 g1' g2 HS4 HLW HZ3 HGA3 HGE3 HOV3
            generalize (((V3.setCell ⟨Zb, 0, none⟩ (.int .i64 (k : Nat))).setCell ⟨Zb, 1, none⟩ (.int .i64 w1)).setCell ⟨Zb, 2, none⟩ (.int .u32 0)).drew = V4 at *
            obtain ⟨⟨y0, y1, y2⟩, -⟩ := cells3' HZ4.out
            go_wp2_with fail
            have HBW : Hid (Below V4.heap.size V4 (V4.alloc (.cells #[.int .i64 (k : Nat), .int .i64 (w1 + 1), .int .u32 0] 34))) := (Below.refl _ _).alloc (Nat.le_refl _) _
            have HZT : Hid ((V4.alloc (.cells #[.int .i64 (k : Nat), .int .i64 (w1 + 1), .int .u32 0] 34)).heap[V4.heap.size]? = some (.cells #[.int .i64 (k : Nat), .int .i64 (w1 + 1), .int .u32 0] 34 (0, 0))) := heap_alloc_new V4 _
            clear y0 y1 y2
            generalize (V4.alloc (.cells #[.int .i64 (k : Nat), .int .i64 (w1 + 1), .int .u32 0] 34)) = V5 at *
            obtain ⟨Zt, hZt⟩ : ∃ Zt, Zt = V4.heap.size := ⟨_, rfl⟩
            have HGT : Hid (Zt = V4.heap.size) := hZt
            rw [← hZt] at HZT
            try rw [← hZt]
            clear hZt
            obtain ⟨g1, hg1⟩ : ∃ g1, g1 = w1 + 1 := ⟨_, rfl⟩
            rw [← hg1] at HZT HPR
            try rw [← hg1]
            clear hg1
            have HOV5 : Hid (OvAt V5 q s ({ retireO O (h, p) with B := putB O.B k 1 true, fresh := O.fresh } : Ov)) := HO4.out.kept HBW.out
            have HGAV5 : Hid (V5.heap[A]? = some (.cells #[.int .i64 h, .int .i64 p] 29 (0, 0))) := (HBW.out.block A (lt_of_heap HGA4.out)).trans HGA4.out
            have HGEV5 : Hid (V5.heap[E]? = some (.cells #[.int .i64 0, .int .i64 0, .int .u32 0] 34 (0, 0))) := (HBW.out.block E (lt_of_heap HGE4.out)).trans HGE4.out
            have HSTV5 : Hid (OvStep s w V5) := HST4.out.below HBW.out
            obtain ⟨V6, hup, hm, hg⟩ := (HOV5.out.fresh.drew).put (by show O.fresh.length < 100000; have := HLEN.out; omega) HK.out ((k : Int), g1, 0)
            have HUP : (Instr.mapUpdate 52 (.map (some s.Z)) (.agg #[.int .i64 h, .int .i64 p]) (.agg #[.int .i64 (k : Nat), .int .i64 g1, .int .u32 0])).run Tryd.prog V5.drew = .ok () V6 := hup
            have HMV6 : Hid (MapL V6 s.Z (putL ({ retireO O (h, p) with B := putB O.B k 1 true, fresh := O.fresh } : Ov).fresh (h, p) ((k : Int), g1, 0))) := hm
            have HGV6 : Hid (V5.drew.grownBy V6 (some s.Z)) := hg
            clear hup hm hg
            have HS7 : Hid (∀ w', Below V5.heap.size V5 w' → ((w'.cell? ⟨A, 0, none⟩ = some (.int .i64 h) ∧ w'.cell? ⟨A, 1, none⟩ = some (.int .i64 p)) ∧ w'.cell? ⟨q, 3, none⟩ = some (.map (some s.Z))) ∧ w'.cell? ⟨Zt, 0, none⟩ = some (.int .i64 (k : Nat)) ∧ w'.cell? ⟨Zt, 1, none⟩ = some (.int .i64 g1) ∧ w'.cell? ⟨Zt, 2, none⟩ = some (.int .u32 0)) := fun w' hb => ⟨⟨cells2' ((hb.block A (lt_of_heap HGAV5.out)).trans HGAV5.out), (HOV5.out.kept hb).cells.2.2.2⟩, (cells3' ((hb.block Zt (lt_of_heap HZT.out)).trans HZT.out)).1⟩
            have HOV6 : Hid (OvAt V6 q s ({ retireO O (h, p) with B := putB O.B k 1 true, fresh := putL O.fresh (h, p) ((k : Int), g1, 0) })) := HOV5.out.drew.freshTo HGV6.out HMV6.out
            have HGAV6 : Hid (V6.heap[A]? = some (.cells #[.int .i64 h, .int .i64 p] 29 (0, 0))) := (grown_block HGV6.out (lt_of_heap HGAV5.out) (ne_map (w := V5) HGAV5.out HOV5.out.fresh)).trans HGAV5.out
            have HZV6 : Hid (V6.heap[Zt]? = some (.cells #[.int .i64 (k : Nat), .int .i64 g1, .int .u32 0] 34 (0, 0))) := (grown_block HGV6.out (lt_of_heap HZT.out) (ne_map (w := V5) HZT.out HOV5.out.fresh)).trans HZT.out
            go_region_held3 (fun w' => ((w'.cell? ⟨A, 0, none⟩ = some (.int .i64 h) ∧ w'.cell? ⟨A, 1, none⟩ = some (.int .i64 p)) ∧ w'.cell? ⟨q, 3, none⟩ = some (.map (some s.Z))) ∧ w'.cell? ⟨Zt, 0, none⟩ = some (.int .i64 (k : Nat)) ∧ w'.cell? ⟨Zt, 1, none⟩ = some (.int .i64 g1) ∧ w'.cell? ⟨Zt, 2, none⟩ = some (.int .u32 0)) (first | exact HS7.out _ (Below.refl _ _).drew | exact HS7.out _ (Below.refl _ _) | exact ⟨⟨cells2' HGAV6.out, HOV6.out.cells.2.2.2⟩, (cells3' HZV6.out).1⟩) (fail)
            all_goals
              clear HS7 HUP
              have HSTE : Hid (OvStep s w V6) := HSTV5.out.drew.grown HGV6.out (.inr (.inr rfl))
              have HZE : Hid (V6.heap[E]? = some (.cells #[.int .i64 0, .int .i64 0, .int .u32 0] 34 (0, 0))) := (grown_block HGV6.out (lt_of_heap HGEV5.out) (ne_map (w := V5) HGEV5.out HOV5.out.fresh)).trans HGEV5.out
              obtain ⟨⟨z0, z1, z2⟩, zf⟩ := cells3' HZE.out
              obtain ⟨⟨e0, e1, e2⟩, -⟩ := cells3' HZV6.out
              have f0 := zf 0
              have f1 := zf 1
              have f2 := zf 2
              clear zf
              have HOF : Hid (∀ x y z, OvAt (((V6.setCell ⟨E, 0, none⟩ x).setCell ⟨E, 1, none⟩ y).setCell ⟨E, 2, none⟩ z) q s ({ retireO O (h, p) with B := putB O.B k 1 true, fresh := putL O.fresh (h, p) ((k : Int), g1, 0) })) := fun x y z => HOV6.out.set3 HZE.out x y z
              have HSF : Hid (∀ x y z, OvStep s w (((V6.setCell ⟨E, 0, none⟩ x).setCell ⟨E, 1, none⟩ y).setCell ⟨E, 2, none⟩ z)) := fun x y z => ((HSTE.out.setNew HEL.out x).setNew HEL.out y).setNew HEL.out z
              go_wp2
              first
                | refine bodyPost_ret (v := .tuple #[.agg #[.int .i64 _, .int .i64 _, .int .u32 _], .int .i64 _]) (results_cell2 rfl rfl rfl (load_ent (set_three _ _ _ z0 z1 z2).1 (set_three _ _ _ z0 z1 z2).2.1 (set_three _ _ _ z0 z1 z2).2.2)) rfl ⟨{ retireO O (h, p) with B := putB O.B k 1 true, fresh := putL O.fresh (h, p) ((k : Int), g1, 0) }, ((k : Int), g1, 0), 0, rfl, HPR.out, HOF.out _ _ _, HSF.out _ _ _⟩
                | refine bodyPost_ret (v := .tuple #[.agg #[.int .i64 _, .int .i64 _, .int .u32 _], .int .i64 _]) (results_cell2 rfl rfl rfl (load_ent (set_three _ _ _ z0 z1 z2).1 (set_three _ _ _ z0 z1 z2).2.1 (set_three _ _ _ z0 z1 z2).2.2)) rfl ⟨{ retireO O (h, p) with B := putB O.B k 1 true, fresh := putL O.fresh (h, p) ((k : Int), g1, 0) }, (k : Int), g1, 0, 0, rfl, HPR.out, HOF.out _ _ _, HSF.out _ _ _⟩
        · have HPR := HP3.out hall
          have HPR : Hid (PutRel O (h, p) O (0, 0, 0) 12) := HPR
          have HSTE := HST1
          have HZE := HGE1
          clear d0 HTK hall HP3 HP4
          obtain ⟨⟨z0, z1, z2⟩, zf⟩ := cells3' HZE.out
          have f0 := zf 0
          have f1 := zf 1
          have f2 := zf 2
          clear zf
          have HOF : Hid (∀ x y z, OvAt (((V2.setCell ⟨E, 0, none⟩ x).setCell ⟨E, 1, none⟩ y).setCell ⟨E, 2, none⟩ z) q s (O)) := fun x y z => HOV1.out.set3 HZE.out x y z
          have HSF : Hid (∀ x y z, OvStep s w (((V2.setCell ⟨E, 0, none⟩ x).setCell ⟨E, 1, none⟩ y).setCell ⟨E, 2, none⟩ z)) := fun x y z => ((HSTE.out.setNew HEL.out x).setNew HEL.out y).setNew HEL.out z
          go_wp2
          first
            | refine bodyPost_ret (v := .tuple #[.agg #[.int .i64 _, .int .i64 _, .int .u32 _], .int .i64 _]) (results_cell2 rfl rfl rfl (load_ent (set_three _ _ _ z0 z1 z2).1 (set_three _ _ _ z0 z1 z2).2.1 (set_three _ _ _ z0 z1 z2).2.2)) rfl ⟨O, (0, 0, 0), 12, rfl, HPR.out, HOF.out _ _ _, HSF.out _ _ _⟩
            | refine bodyPost_ret (v := .tuple #[.agg #[.int .i64 _, .int .i64 _, .int .u32 _], .int .i64 _]) (results_cell2 rfl rfl rfl (load_ent (set_three _ _ _ z0 z1 z2).1 (set_three _ _ _ z0 z1 z2).2.1 (set_three _ _ _ z0 z1 z2).2.2)) rfl ⟨O, 0, 0, 0, 12, rfl, HPR.out, HOF.out _ _ _, HSF.out _ _ _⟩
    · have HPR : Hid (PutRel O (h, p) { O with fresh := putL O.fresh (h, p) (s0, s1 + 1, 0) } (s0, s1 + 1, 0) 0) := .inr (.inl ⟨hr, _, hf, rfl, rfl, rfl⟩)
      have hb1 : 1 ≤ s1 ∧ s1 ≤ 900000000000000 := by have := hok.fit 2 (h, p) (s0, s1, s2) ⟨by decide, hf⟩; exact ⟨this.2.1, Int.le_trans this.2.2.1 ht9⟩
      have HLB : Hid (∀ W', MapL W' s.Z O.fresh → (Instr.lookup 52 (.map (some s.Z)) (.agg #[.int .i64 h, .int .i64 p]) true).run Tryd.prog W' = .ok (.tuple #[.agg #[.int .i64 s0, .int .i64 s1, .int .u32 (s2 : Nat)], .bool true]) W') := fun W' hm => by
        have h9 := hm.look (k := (h, p)) HK.out
        rw [hf] at h9
        exact h9
      clear hf hr hO hk hl hok ht h0 ht9
      go_enter Tryd.func7, Tryd.ntmps7
      go_wp2_with fail
      obtain ⟨Va, hW⟩ : ∃ W, W = (w.alloc (.cells #[.int .i64 h, .int .i64 p] 29)).alloc (.cells #[.int .i64 0, .int .i64 0, .int .u32 0] 34) := ⟨_, rfl⟩
      have hs : (w.alloc (.cells #[.int .i64 h, .int .i64 p] 29)).heap.size = w.heap.size + 1 := by simp
      have HB0 : Hid (Below w.heap.size w Va) := by rw [hW]; exact ((Below.refl _ _).alloc (Nat.le_refl _) _).alloc (by simp) _
      have HGA : Hid (Va.heap[w.heap.size]? = some (.cells #[.int .i64 h, .int .i64 p] 29 (0, 0))) := by
        rw [hW]
        exact (((Below.refl _ _).alloc (Nat.le_refl _) _ : Below _ (w.alloc (.cells #[.int .i64 h, .int .i64 p] 29)) _).block w.heap.size (by simp)).trans (heap_alloc_new w _)
      have HGE : Hid (Va.heap[w.heap.size + 1]? = some (.cells #[.int .i64 0, .int .i64 0, .int .u32 0] 34 (0, 0))) := by
        have := heap_alloc_new (w.alloc (.cells #[.int .i64 h, .int .i64 p] 29)) (.cells #[.int .i64 0, .int .i64 0, .int .u32 0] 34)
        rw [hs] at this
        rw [hW]; exact this
      have HOV : Hid (OvAt Va q s O) := HO.out.kept HB0.out
      rw [← hW]
      try rw [hs]
      obtain ⟨A, hA⟩ : ∃ A, A = w.heap.size := ⟨_, rfl⟩
      obtain ⟨E, hE⟩ : ∃ E, E = A + 1 := ⟨_, rfl⟩
      rw [← hA] at HGA HGE
      rw [← hE] at HGE
      try rw [← hA]
      try rw [← hE]
      have HA : Hid (A = w.heap.size) := hA
      have HE : Hid (E = A + 1) := hE
      clear hW hs hA hE
      refine (HRI.out Va).mono ?_
      rintro e V ⟨rfl, hbV⟩
      have HBV0 : Hid (Below w.heap.size w V) := HB0.out.trans (hbV.mono HB0.out.size)
      have HOVV : Hid (OvAt V q s O) := HOV.out.kept hbV
      have HGAV : Hid (V.heap[A]? = some (.cells #[.int .i64 h, .int .i64 p] 29 (0, 0))) := (hbV.block A (lt_of_heap HGA.out)).trans HGA.out
      have HGEV : Hid (V.heap[E]? = some (.cells #[.int .i64 0, .int .i64 0, .int .u32 0] 34 (0, 0))) := (hbV.block E (lt_of_heap HGE.out)).trans HGE.out
      have HEL : Hid (w.heap.size ≤ E) := by have := HA.out; have := HE.out; unfold Hid; omega
      have HSTV : Hid (OvStep s w V) := .ofBelow HBV0.out
      clear hbV HRI
      go_wp2_with fail
      have HS9 : Hid (∀ w', Below V.heap.size V w' → (w'.cell? ⟨A, 0, none⟩ = some (.int .i64 h) ∧ w'.cell? ⟨A, 1, none⟩ = some (.int .i64 p)) ∧ w'.cell? ⟨q, 3, none⟩ = some (.map (some s.Z)) ∧ (Instr.lookup 52 (.map (some s.Z)) (.agg #[.int .i64 h, .int .i64 p]) true).run Tryd.prog w' = .ok (.tuple #[.agg #[.int .i64 s0, .int .i64 s1, .int .u32 (s2 : Nat)], .bool true]) w') := fun w' hb => ⟨cells2' ((hb.block A (lt_of_heap HGAV.out)).trans HGAV.out), (HOVV.out.kept hb).cells.2.2.2, HLB.out w' (HOVV.out.fresh.kept hb)⟩
      go_region_held3 (fun w' => (w'.cell? ⟨A, 0, none⟩ = some (.int .i64 h) ∧ w'.cell? ⟨A, 1, none⟩ = some (.int .i64 p)) ∧ w'.cell? ⟨q, 3, none⟩ = some (.map (some s.Z)) ∧ (Instr.lookup 52 (.map (some s.Z)) (.agg #[.int .i64 h, .int .i64 p]) true).run Tryd.prog w' = .ok (.tuple #[.agg #[.int .i64 s0, .int .i64 s1, .int .u32 (s2 : Nat)], .bool true]) w') (first | exact HS9.out _ (Below.refl _ _).drew | exact HS9.out _ ((Below.refl _ _).drew.alloc (Nat.le_refl _) _)) (fail)
      all_goals
        have HZV1 : Hid ((V.alloc (.cells #[.int .i64 s0, .int .i64 s1, .int .u32 (s2 : Nat)] 34)).drew.heap[V.heap.size]? = some (.cells #[.int .i64 s0, .int .i64 s1, .int .u32 (s2 : Nat)] 34 (0, 0))) := heap_alloc_new V _
        have HBV1 : Hid (Below V.heap.size V (V.alloc (.cells #[.int .i64 s0, .int .i64 s1, .int .u32 (s2 : Nat)] 34)).drew) := ((Below.refl _ _).alloc (Nat.le_refl _) _).drew
        generalize (V.alloc (.cells #[.int .i64 s0, .int .i64 s1, .int .u32 (s2 : Nat)] 34)).drew = V1 at *
        obtain ⟨Zb, hZb⟩ : ∃ Zb, Zb = V.heap.size := ⟨_, rfl⟩
        have HGV1 : Hid (Zb = V.heap.size) := hZb
        rw [← hZb] at HZV1
        try rw [← hZb]
        clear hZb HS9
        have HOV1 : Hid (OvAt V1 q s O) := HOVV.out.kept HBV1.out
        have HGA1 : Hid (V1.heap[A]? = some (.cells #[.int .i64 h, .int .i64 p] 29 (0, 0))) := (HBV1.out.block A (lt_of_heap HGAV.out)).trans HGAV.out
        have HGE1 : Hid (V1.heap[E]? = some (.cells #[.int .i64 0, .int .i64 0, .int .u32 0] 34 (0, 0))) := (HBV1.out.block E (lt_of_heap HGEV.out)).trans HGEV.out
        have HST1 : Hid (OvStep s w V1) := HSTV.out.below HBV1.out
        obtain ⟨⟨y0, y1, y2⟩, -⟩ := cells3' HZV1.out
        go_wp2_with fail
        have HBW : Hid (Below V1.heap.size V1 (V1.alloc (.cells #[.int .i64 s0, .int .i64 (s1 + 1), .int .u32 0] 34))) := (Below.refl _ _).alloc (Nat.le_refl _) _
        have HZT : Hid ((V1.alloc (.cells #[.int .i64 s0, .int .i64 (s1 + 1), .int .u32 0] 34)).heap[V1.heap.size]? = some (.cells #[.int .i64 s0, .int .i64 (s1 + 1), .int .u32 0] 34 (0, 0))) := heap_alloc_new V1 _
        clear y0 y1 y2
        generalize (V1.alloc (.cells #[.int .i64 s0, .int .i64 (s1 + 1), .int .u32 0] 34)) = V1b at *
        obtain ⟨Zt, hZt⟩ : ∃ Zt, Zt = V1.heap.size := ⟨_, rfl⟩
        have HGT : Hid (Zt = V1.heap.size) := hZt
        rw [← hZt] at HZT
        try rw [← hZt]
        clear hZt
        obtain ⟨g1, hg1⟩ : ∃ g1, g1 = s1 + 1 := ⟨_, rfl⟩
        rw [← hg1] at HZT HPR
        try rw [← hg1]
        clear hg1
        have HOV1b : Hid (OvAt V1b q s (O)) := HOV1.out.kept HBW.out
        have HGAV1b : Hid (V1b.heap[A]? = some (.cells #[.int .i64 h, .int .i64 p] 29 (0, 0))) := (HBW.out.block A (lt_of_heap HGA1.out)).trans HGA1.out
        have HGEV1b : Hid (V1b.heap[E]? = some (.cells #[.int .i64 0, .int .i64 0, .int .u32 0] 34 (0, 0))) := (HBW.out.block E (lt_of_heap HGE1.out)).trans HGE1.out
        have HSTV1b : Hid (OvStep s w V1b) := HST1.out.below HBW.out
        obtain ⟨V2, hup, hm, hg⟩ := (HOV1b.out.fresh.drew).put (by show O.fresh.length < 100000; have := HLEN.out; omega) HK.out (s0, g1, 0)
        have HUP : (Instr.mapUpdate 52 (.map (some s.Z)) (.agg #[.int .i64 h, .int .i64 p]) (.agg #[.int .i64 s0, .int .i64 g1, .int .u32 0])).run Tryd.prog V1b.drew = .ok () V2 := hup
        have HMV2 : Hid (MapL V2 s.Z (putL (O).fresh (h, p) (s0, g1, 0))) := hm
        have HGV2 : Hid (V1b.drew.grownBy V2 (some s.Z)) := hg
        clear hup hm hg
        have HS7 : Hid (∀ w', Below V1b.heap.size V1b w' → ((w'.cell? ⟨A, 0, none⟩ = some (.int .i64 h) ∧ w'.cell? ⟨A, 1, none⟩ = some (.int .i64 p)) ∧ w'.cell? ⟨q, 3, none⟩ = some (.map (some s.Z))) ∧ w'.cell? ⟨Zt, 0, none⟩ = some (.int .i64 s0) ∧ w'.cell? ⟨Zt, 1, none⟩ = some (.int .i64 g1) ∧ w'.cell? ⟨Zt, 2, none⟩ = some (.int .u32 0)) := fun w' hb => ⟨⟨cells2' ((hb.block A (lt_of_heap HGAV1b.out)).trans HGAV1b.out), (HOV1b.out.kept hb).cells.2.2.2⟩, (cells3' ((hb.block Zt (lt_of_heap HZT.out)).trans HZT.out)).1⟩
        have HOV2 : Hid (OvAt V2 q s ({ O with fresh := putL O.fresh (h, p) (s0, g1, 0) })) := HOV1b.out.drew.freshTo HGV2.out HMV2.out
        have HGAV2 : Hid (V2.heap[A]? = some (.cells #[.int .i64 h, .int .i64 p] 29 (0, 0))) := (grown_block HGV2.out (lt_of_heap HGAV1b.out) (ne_map (w := V1b) HGAV1b.out HOV1b.out.fresh)).trans HGAV1b.out
        have HZV2 : Hid (V2.heap[Zt]? = some (.cells #[.int .i64 s0, .int .i64 g1, .int .u32 0] 34 (0, 0))) := (grown_block HGV2.out (lt_of_heap HZT.out) (ne_map (w := V1b) HZT.out HOV1b.out.fresh)).trans HZT.out
        go_region_held3 (fun w' => ((w'.cell? ⟨A, 0, none⟩ = some (.int .i64 h) ∧ w'.cell? ⟨A, 1, none⟩ = some (.int .i64 p)) ∧ w'.cell? ⟨q, 3, none⟩ = some (.map (some s.Z))) ∧ w'.cell? ⟨Zt, 0, none⟩ = some (.int .i64 s0) ∧ w'.cell? ⟨Zt, 1, none⟩ = some (.int .i64 g1) ∧ w'.cell? ⟨Zt, 2, none⟩ = some (.int .u32 0)) (first | exact HS7.out _ (Below.refl _ _).drew | exact HS7.out _ (Below.refl _ _) | exact ⟨⟨cells2' HGAV2.out, HOV2.out.cells.2.2.2⟩, (cells3' HZV2.out).1⟩) (fail)
        all_goals
          clear HS7 HUP
          have HSTE : Hid (OvStep s w V2) := HSTV1b.out.drew.grown HGV2.out (.inr (.inr rfl))
          have HZE : Hid (V2.heap[E]? = some (.cells #[.int .i64 0, .int .i64 0, .int .u32 0] 34 (0, 0))) := (grown_block HGV2.out (lt_of_heap HGEV1b.out) (ne_map (w := V1b) HGEV1b.out HOV1b.out.fresh)).trans HGEV1b.out
          obtain ⟨⟨z0, z1, z2⟩, zf⟩ := cells3' HZE.out
          obtain ⟨⟨e0, e1, e2⟩, -⟩ := cells3' HZV2.out
          have f0 := zf 0
          have f1 := zf 1
          have f2 := zf 2
          clear zf
          have HOF : Hid (∀ x y z, OvAt (((V2.setCell ⟨E, 0, none⟩ x).setCell ⟨E, 1, none⟩ y).setCell ⟨E, 2, none⟩ z) q s ({ O with fresh := putL O.fresh (h, p) (s0, g1, 0) })) := fun x y z => HOV2.out.set3 HZE.out x y z
          have HSF : Hid (∀ x y z, OvStep s w (((V2.setCell ⟨E, 0, none⟩ x).setCell ⟨E, 1, none⟩ y).setCell ⟨E, 2, none⟩ z)) := fun x y z => ((HSTE.out.setNew HEL.out x).setNew HEL.out y).setNew HEL.out z
          go_wp2
          first
            | refine bodyPost_ret (v := .tuple #[.agg #[.int .i64 _, .int .i64 _, .int .u32 _], .int .i64 _]) (results_cell2 rfl rfl rfl (load_ent (set_three _ _ _ z0 z1 z2).1 (set_three _ _ _ z0 z1 z2).2.1 (set_three _ _ _ z0 z1 z2).2.2)) rfl ⟨{ O with fresh := putL O.fresh (h, p) (s0, g1, 0) }, (s0, g1, 0), 0, rfl, HPR.out, HOF.out _ _ _, HSF.out _ _ _⟩
            | refine bodyPost_ret (v := .tuple #[.agg #[.int .i64 _, .int .i64 _, .int .u32 _], .int .i64 _]) (results_cell2 rfl rfl rfl (load_ent (set_three _ _ _ z0 z1 z2).1 (set_three _ _ _ z0 z1 z2).2.1 (set_three _ _ _ z0 z1 z2).2.2)) rfl ⟨{ O with fresh := putL O.fresh (h, p) (s0, g1, 0) }, s0, g1, 0, 0, rfl, HPR.out, HOF.out _ _ _, HSF.out _ _ _⟩
end Go.Proofs.YtjhkcdnfnmglhaaDoor

/- Contracts of an overlay's Free, Parts, All, Committed. -/
namespace Go.Proofs.YtjhkcdnfnmglhaaDoor
open Go.RowKit Go.Maps
set_option linter.unusedVariables false
set_option maxRecDepth 20000

/-! ### Lists -/
theorem sort_rising {ks : List Ky} (h : ks.Pairwise KLt) : sortR ks = ks := rises_same (sortR_rises ks) h fun k => sortR_mem
theorem find_or {a b : List Md} (hb : Rise b) (x : Ky) : findM (applyM a b []) x = (findM b x).or (findM a x) := by
  rw [find_apply hb.nodup]
  by_cases h : x ∈ b.map Md.k
  · rw [if_pos h]
    obtain ⟨e, he⟩ := find_in h
    rw [he, Option.some_or]
  · rw [if_neg h, if_neg (by simp), find_out.2 h, Option.none_or]
theorem apply_mem {a b : List Md} (ha : Rise a) (hb : Rise b) (hd : ∀ k, findM a k = none ∨ findM b k = none) (m : Md) : m ∈ applyM a b [] ↔ m ∈ a ∨ m ∈ b := by
  have hr := rise_apply a b []
  constructor
  · intro h
    have h2 := mem_find hr.nodup h
    rw [find_or hb] at h2
    cases hbk : findM b m.k with
    | some e =>
      rw [hbk] at h2
      simp only [Option.some_or, Option.some.injEq] at h2
      subst h2
      exact .inr (by have := find_mem hbk; rwa [md_self] at this)
    | none =>
      rw [hbk, Option.none_or] at h2
      exact .inl (by have := find_mem h2; rwa [md_self] at this)
  · intro h
    have key : findM (applyM a b []) m.k = some (m.s, m.g, m.u) := by
      rw [find_or hb]
      rcases h with h | h
      · have h1 := mem_find ha.nodup h
        have h2 : findM b m.k = none := (hd m.k).resolve_left (by rw [h1]; simp)
        rw [h2, Option.none_or, h1]
      · rw [mem_find hb.nodup h, Option.some_or]
    have := find_mem key
    rwa [md_self] at this
theorem rise_nodup {l : List Md} (h : Rise l) : l.Nodup := List.Pairwise.of_map Md.k (fun a b hne e => hne (by rw [e])) h.nodup
theorem apply_perm {a b : List Md} (ha : Rise a) (hb : Rise b) (hd : ∀ k, findM a k = none ∨ findM b k = none) : (a ++ b).Perm (applyM a b []) := by
  have hn : (a ++ b).Nodup := by
    rw [List.nodup_append]
    refine ⟨rise_nodup ha, rise_nodup hb, fun x hx y hy e => ?_⟩
    subst e
    rcases hd x.k with h | h
    · rw [mem_find ha.nodup hx] at h; cases h
    · rw [mem_find hb.nodup hy] at h; cases h
  exact (List.perm_ext_iff_of_nodup hn (rise_nodup (rise_apply a b []))).2 fun m => by rw [List.mem_append, apply_mem ha hb hd]
theorem apply_right {O : Ov} {t : Int} (h : OvOk O t) {c d : Nat} (hc : c < 3) (hd : d < 3) (hrc : Rise (O.part c)) (hrd : Rise (O.part d)) : ∀ k ∈ (applyM (O.part c) (O.part d) []).map Md.k, isR k = true := fun k hk => by
  rw [key_in, find_or hrd] at hk
  cases h1 : findM (O.part d) k with
  | some e => exact (h.fit d k e ⟨hd, h1⟩).1
  | none =>
    cases h2 : findM (O.part c) k with
    | some e => exact (h.fit c k e ⟨hc, h2⟩).1
    | none => simp [h1, h2] at hk
theorem part_right {O : Ov} {t : Int} (h : OvOk O t) {c : Nat} (hc : c < 3) : ∀ k ∈ (O.part c).map Md.k, isR k = true := fun k hk => by
  obtain ⟨e, he⟩ := find_in hk
  exact (h.fit c k e ⟨hc, he⟩).1
def committedO (O : Ov) : List Md := applyM O.base O.was []
def allO (O : Ov) : List Md := applyM O.base O.fresh []

/-! ### Slices of maps that the call makes -/
theorem Pgs.one {w : World} {b : Nat} {l : List Md} (h : MapL w b l) (e : TypeId) : Pgs (w.alloc (.cells #[.map (some b)] e)) (.slice (some ⟨w.heap.size, 0, none⟩) 1 1) [(b, l)] := by
  refine ⟨w.heap.size, rfl, by simp, fun j b' l' hj => ?_⟩
  match j, hj with
  | 0, hj =>
    simp only [List.getElem?_cons_zero, Option.some.injEq, Prod.mk.injEq] at hj
    obtain ⟨rfl, rfl⟩ := hj
    exact ⟨by simp, h.kept ((Below.refl _ _).alloc (Nat.le_refl _) _)⟩
  | j + 1, hj => simp at hj
theorem Pgs.two {w : World} {b c : Nat} {l m : List Md} (h : MapL w b l) (k : MapL w c m) (e : TypeId) : Pgs (w.alloc (.cells #[.map (some b), .map (some c)] e)) (.slice (some ⟨w.heap.size, 0, none⟩) 2 2) [(b, l), (c, m)] := by
  refine ⟨w.heap.size, rfl, by simp, fun j b' l' hj => ?_⟩
  match j, hj with
  | 0, hj =>
    simp only [List.getElem?_cons_zero, Option.some.injEq, Prod.mk.injEq] at hj
    obtain ⟨rfl, rfl⟩ := hj
    exact ⟨by simp, h.kept ((Below.refl _ _).alloc (Nat.le_refl _) _)⟩
  | 1, hj =>
    simp only [List.getElem?_cons_succ, List.getElem?_cons_zero, Option.some.injEq, Prod.mk.injEq] at hj
    obtain ⟨rfl, rfl⟩ := hj
    exact ⟨by simp, k.kept ((Below.refl _ _).alloc (Nat.le_refl _) _)⟩
  | j + 2, hj => simp at hj

/-! ### Free -/
theorem drewN_below (w : World) (m : Nat) : Below w.heap.size w (w.drewN m) := ⟨rfl, rfl, rfl, Nat.le_refl _, fun _ _ => rfl⟩
theorem freeO12_any (w : World) (q : Nat) (s : OvB) (O : Ov) (hO : OvAt w q s O) :
    Calls Tryd.prog 11 #[.pointer (some ⟨q, 0, none⟩)] w fun x w' => x = .returned (.int .i64 (O.n - cnt O.B 0 O.n : Nat)) ∧ Below w.heap.size w w' := by
  obtain ⟨c0, -, -, -⟩ := hO.cells
  have HF := free_any w s.h s.p s.b s.f s.cap O.n O.B hO.board
  clear hO
  generalize O.n - cnt O.B 0 O.n = x at *
  go_enter Tryd.func11, Tryd.ntmps11
  go_wp2_with fail
  refine HF.mono ?_
  rintro e w1 ⟨rfl, m, rfl⟩
  go_wp2
  go_ret
  exact ⟨rfl, drewN_below w m⟩

/-! ### Parts -/
set_option maxHeartbeats 2000000 in
theorem parts12_any (w : World) (q : Nat) (s : OvB) (O : Ov) (hO : OvAt w q s O) (hl : OvSmall O) (hs : (∀ m ∈ O.base, I64 m.s) ∧ (∀ m ∈ O.was, I64 m.s) ∧ ∀ m ∈ O.fresh, I64 m.s) :
    Calls Tryd.prog 10 #[.pointer (some ⟨q, 0, none⟩)] w fun x w' => ∃ u1 u2 u3, x = .returned (.tuple #[u1, u2, u3]) ∧ Nums w' u1 (slotsL O.base) ∧ Nums w' u2 (slotsL O.fresh) ∧ Nums w' u3 (slotsL O.was) ∧ Below w.heap.size w w' := by
  have HO : Hid (OvAt w q s O) := hO
  have HP1 : Hid (∀ W, OvAt W q s O → Calls Tryd.prog 16 #[.map (some s.X)] W fun e w' => ∃ u, e = .returned u ∧ Nums w' u (slotsL O.base) ∧ Below W.heap.size W w') := fun W ho => (places12_any W s.X O.base ho.base (by have := hl.1; omega) hs.1).mono fun e w' ⟨u, h1, h2, h3, _⟩ => ⟨u, h1, h2, h3⟩
  have HP2 : Hid (∀ W, OvAt W q s O → Calls Tryd.prog 16 #[.map (some s.Z)] W fun e w' => ∃ u, e = .returned u ∧ Nums w' u (slotsL O.fresh) ∧ Below W.heap.size W w') := fun W ho => (places12_any W s.Z O.fresh ho.fresh (by have := hl.2.2; omega) hs.2.2).mono fun e w' ⟨u, h1, h2, h3, _⟩ => ⟨u, h1, h2, h3⟩
  have HP3 : Hid (∀ W, OvAt W q s O → Calls Tryd.prog 16 #[.map (some s.Y)] W fun e w' => ∃ u, e = .returned u ∧ Nums w' u (slotsL O.was) ∧ Below W.heap.size W w') := fun W ho => (places12_any W s.Y O.was ho.was (by have := hl.2.1; omega) hs.2.1).mono fun e w' ⟨u, h1, h2, h3, _⟩ => ⟨u, h1, h2, h3⟩
  generalize slotsL O.base = L1 at *
  generalize slotsL O.fresh = L2 at *
  generalize slotsL O.was = L3 at *
  have HS : Hid (∀ W, OvAt W q s O → W.cell? ⟨q, 1, none⟩ = some (.map (some s.X)) ∧ W.cell? ⟨q, 2, none⟩ = some (.map (some s.Y)) ∧ W.cell? ⟨q, 3, none⟩ = some (.map (some s.Z))) := fun W ho => ho.cells.2
  clear hO hl hs
  go_enter Tryd.func10, Tryd.ntmps10
  go_wp2_with fail
  go_region_held3 (fun w' => w'.cell? ⟨q, 1, none⟩ = some (.map (some s.X)) ∧ w'.cell? ⟨q, 2, none⟩ = some (.map (some s.Y)) ∧ w'.cell? ⟨q, 3, none⟩ = some (.map (some s.Z))) (first | exact HS.out _ HO.out.drew | exact HS.out _ HO1.out | exact HS.out _ HO2.out | exact HS.out _ HO3.out) (first
    | (go_at_call 16; with_reducible refine (HP1.out _ HO.out.drew).mono ?_; rintro e w1 ⟨u1, rfl, hn1, hb1⟩
       have HN1 : Hid (Nums w1 u1 L1) := hn1
       have HB1 : Hid (Below w.heap.size w w1) := below_undrew hb1
       have HO1 : Hid (OvAt w1 q s O) := HO.out.kept HB1.out
       clear hn1 hb1)
    | (go_at_call 16; with_reducible refine (HP2.out _ HO1.out).mono ?_; rintro e w2 ⟨u2, rfl, hn2, hb2⟩
       have HN2 : Hid (Nums w2 u2 L2) := hn2
       have HN12 : Hid (Nums w2 u1 L1) := HN1.out.kept hb2
       have HB2 : Hid (Below w.heap.size w w2) := HB1.out.trans (hb2.mono HB1.out.size)
       have HO2 : Hid (OvAt w2 q s O) := HO1.out.kept hb2
       clear hn2 hb2)
    | (go_at_call 16; with_reducible refine (HP3.out _ HO2.out).mono ?_; rintro e w3 ⟨u3, rfl, hn3, hb3⟩
       have HN3 : Hid (Nums w3 u3 L3) := hn3
       have HN13 : Hid (Nums w3 u1 L1) := HN12.out.kept hb3
       have HN23 : Hid (Nums w3 u2 L2) := HN2.out.kept hb3
       have HB3 : Hid (Below w.heap.size w w3) := HB2.out.trans (hb3.mono HB2.out.size)
       have HO3 : Hid (OvAt w3 q s O) := HO2.out.kept hb3
       clear hn3 hb3))
  all_goals
    go_wp2
    refine bodyPost_ret (results_tmp3 rfl _ _ _) rfl ?_
    exact ⟨_, _, _, rfl, HN13.out, HN23.out, HN3.out, HB3.out⟩

/-! ### All, Committed -/
set_option maxHeartbeats 2000000 in
theorem committed12_any (w : World) (q : Nat) (s : OvB) (O : Ov) (t : Int) (hO : OvAt w q s O) (hl : OvSmall O) (hok : OvOk O t) :
    Calls Tryd.prog 12 #[.pointer (some ⟨q, 0, none⟩)] w fun x w' => ∃ u, x = .returned u ∧ Els encM 5 w' u (committedO O) ∧ Below w.heap.size w w' ∧ ∀ g, u.ownBlock = some g → w.heap.size ≤ g := by
  have HO : Hid (OvAt w q s O) := hO
  have HP1 : Hid (∀ W, OvAt W q s O → Calls Tryd.prog 22 #[.slice (some ⟨W.heap.size, 0, none⟩) 2 2] (W.alloc (.cells #[.map (some s.X), .map (some s.Y)] 52)) fun e w' => ∃ u, e = .returned u ∧ Els encM 5 w' u (committedO O) ∧ Below W.heap.size W w' ∧ ∀ g, u.ownBlock = some g → W.heap.size ≤ g) := fun W ho => by
    refine (list12_any _ _ [(s.X, O.base), (s.Y, O.was)] (committedO O) (Pgs.two ho.base ho.was _) ?_ (by simp) ?_ (rise_apply _ _ _) (apply_right hok (c := 0) (d := 1) (by decide) (by decide) hok.rb hok.rw)).mono ?_
    · intro x hx
      simp only [List.mem_cons, List.not_mem_nil, or_false] at hx
      rcases hx with rfl | rfl
      · exact Nat.le_trans hl.1 (by decide)
      · exact Nat.le_trans hl.2.1 (by decide)
    · simp only [List.flatMap_cons, List.flatMap_nil, List.append_nil]
      refine apply_perm hok.rb hok.rw fun k => ?_
      cases hk : findM O.base k with
      | none => exact .inl rfl
      | some e => exact .inr (hok.apart k e hk).1
    · rintro e w' ⟨u, rfl, h1, h2, h3⟩
      have hb : Below W.heap.size W (W.alloc (.cells #[.map (some s.X), .map (some s.Y)] 52)) := (Below.refl _ _).alloc (Nat.le_refl _) _
      exact ⟨u, rfl, h1, hb.trans (h2.mono hb.size), fun g hg => Nat.le_trans hb.size (h3 g hg)⟩
  generalize committedO O = LL at *
  have HS : Hid (∀ W, OvAt W q s O → W.cell? ⟨q, 1, none⟩ = some (.map (some s.X)) ∧ W.cell? ⟨q, 2, none⟩ = some (.map (some s.Y))) := fun W ho => ⟨ho.cells.2.1, ho.cells.2.2.1⟩
  have HA : Hid (∀ o, OvAt (w.alloc o).drew q s O) := fun o => (HO.out.kept ((Below.refl _ _).alloc (Nat.le_refl _) o)).drew
  clear hO hl hok
  go_enter Tryd.func12, Tryd.ntmps12
  go_wp2_with fail
  go_region_held3 (fun w' => w'.cell? ⟨q, 1, none⟩ = some (.map (some s.X)) ∧ w'.cell? ⟨q, 2, none⟩ = some (.map (some s.Y))) (first | exact HS.out _ HO.out.drew | exact HS.out _ (HA.out _) | exact HS.out _ HO1.out) (first
    | (go_at_call 22; refine (HP1.out _ HO.out.drew).mono ?_; rintro e w1 ⟨u1, rfl, hn1, hb1, hg1⟩
       have HN1 : Hid (Els encM 5 w1 u1 LL) := hn1
       have HB1 : Hid (Below w.heap.size w w1) := below_undrew hb1
       have HO1 : Hid (OvAt w1 q s O) := HO.out.kept HB1.out
       have HG1 : Hid (∀ g, u1.ownBlock = some g → w.heap.size ≤ g) := hg1
       clear hn1 hb1 hg1))
  all_goals
    go_wp2
    go_ret
    exact ⟨_, rfl, HN1.out, HB1.out, HG1.out⟩
end Go.Proofs.YtjhkcdnfnmglhaaDoor

/- Contracts of an overlay's Diff and Keys. -/
namespace Go.Proofs.YtjhkcdnfnmglhaaDoor
open Go.RowKit Go.Maps
set_option linter.unusedVariables false
set_option maxRecDepth 20000

/-! ### The closures -/
def wantD (O : Ov) (k : Ky) : Bool := !(findM O.fresh k).isSome
def wantH (H : Int) (k : Ky) : Bool := decide (k.1 = H)
/-! ### What they are asked for -/
theorem want_rising {l : List Md} (h : Rise l) (wb : Ky → Bool) : sortR (wantK wb l) = wantK wb l := sort_rising (List.Pairwise.filter wb h)
theorem gone_is {O : Ov} (h : Rise O.was) : sortR (wantK (wantD O) ([(0, O.was)].flatMap (·.2))) = goneL O := by
  simp only [List.flatMap_cons, List.flatMap_nil, List.append_nil]
  rw [want_rising h]
  rfl
theorem keys_is {O : Ov} {t : Int} (h : OvOk O t) (H : Int) : sortR (wantK (wantH H) (O.base ++ O.fresh)) = wantK (wantH H) (allO O) := by
  have hp : (O.base ++ O.fresh).Perm (allO O) := by
    refine apply_perm h.rb h.rf fun k => ?_
    cases hk : findM O.base k with
    | none => exact .inl rfl
    | some e => exact .inr (h.apart k e hk).2
  have e := want_rising (rise_apply O.base O.fresh []) (wantH H)
  show _ = wantK (wantH H) (applyM O.base O.fresh [])
  rw [← e]
  exact sortR_alike fun k => ((hp.map Md.k).filter (wantH H)).mem_iff

/-! ### Diff -/
/-! ### Keys -/
end Go.Proofs.YtjhkcdnfnmglhaaDoor

/- Contract of an overlay's Commit. -/
namespace Go.Proofs.YtjhkcdnfnmglhaaDoor
open Go.RowKit Go.Maps
set_option linter.unusedVariables false
set_option maxRecDepth 20000

/-- The pages of ss laid into a list. -/
def layL (l ss : List Md) : List Md := ss.foldl (fun l m => putL l m.k (m.s, m.g, m.u)) l
theorem layL_snoc (l ss : List Md) (x : Ky) (e : Ent) : layL l (ss ++ [md x e]) = putL (layL l ss) x e := by
  unfold layL
  rw [List.foldl_append]
  rfl
theorem layL_rise {l : List Md} (h : Rise l) : ∀ ss, Rise (layL l ss) := fun ss => by
  rcases List.eq_nil_or_concat ss with rfl | ⟨r, m, rfl⟩
  · exact h
  · rw [List.concat_eq_append, ← md_self m, layL_snoc]
    exact rise_put _ _ _
theorem layL_find {l : List Md} : ∀ {ss : List Md} (_ : (ss.map Md.k).Nodup) (x : Ky), findM (layL l ss) x = (findM ss x).or (findM l x)
  | [], _, x => rfl
  | m :: r, h, x => by
    rw [List.map_cons, List.nodup_cons] at h
    show findM (layL (putL l m.k (m.s, m.g, m.u)) r) x = _
    rw [layL_find h.2, find_put, findM]
    by_cases q : x = m.k
    · subst q
      rw [if_pos rfl, if_pos rfl, find_out.2 h.1]
      rfl
    · rw [if_neg q, if_neg (fun e => q e.symm)]
theorem find_perm {a b : List Md} (h : a.Perm b) (hb : (b.map Md.k).Nodup) (x : Ky) : findM a x = findM b x := by
  have ha : (a.map Md.k).Nodup := (h.map Md.k).nodup_iff.2 hb
  cases hx : findM b x with
  | none =>
    rw [find_out] at hx ⊢
    exact fun h' => hx ((h.map Md.k).mem_iff.1 h')
  | some e =>
    have h1 := h.mem_iff.2 (find_mem hx)
    exact mem_find ha h1
theorem layL_is {l a ss : List Md} (hl : Rise l) (ha : Rise a) (h : ss.Perm a) : layL l ss = applyM l a [] :=
  rise_ext (layL_rise hl ss) (rise_apply _ _ _) fun k => by
    rw [layL_find ((h.map Md.k).nodup_iff.2 ha.nodup), find_or ha, find_perm h ha.nodup]
theorem layL_len {l : List Md} (hl : Rise l) : ∀ ss, (layL l ss).length ≤ l.length + ss.length := fun ss => by
  induction ss generalizing l with
  | nil => exact Nat.le_refl _
  | cons m r ih =>
    have h1 := ih (rise_put l m.k (m.s, m.g, m.u))
    have h2 := len_put hl m.k (m.s, m.g, m.u)
    show (layL (putL l m.k (m.s, m.g, m.u)) r).length ≤ _
    rw [List.length_cons]
    split at h2 <;> omega
theorem OvAt.blocks {w w' : World} {q : Nat} {s : OvB} {O : Ov} (h : OvAt w q s O) (hk : ∀ i, i = q ∨ i = s.h ∨ i = s.p ∨ i = s.b ∨ i = s.f ∨ i = s.X ∨ i = s.Y ∨ i = s.Z → w'.heap[i]? = w.heap[i]?) : OvAt w' q s O where
  head := (hk q (by simp)).trans h.head
  board := h.board.same (hk _ (by simp)) (hk _ (by simp)) (hk _ (by simp)) (hk _ (by simp))
  base := h.base.same (hk _ (by simp))
  was := h.was.same (hk _ (by simp))
  fresh := h.fresh.same (hk _ (by simp))
  ne := h.ne
  pos := h.pos
theorem OvAt.lts {w : World} {q : Nat} {s : OvB} {O : Ov} (h : OvAt w q s O) {i : Nat} (hi : i = q ∨ i = s.h ∨ i = s.p ∨ i = s.b ∨ i = s.f ∨ i = s.X ∨ i = s.Y ∨ i = s.Z) : i < w.heap.size := by
  obtain ⟨cur, h2, _⟩ := h.board.nums
  rcases hi with rfl | rfl | rfl | rfl | rfl | rfl | rfl | rfl
  · exact h.lt
  · exact lt_of_heap h.board.head
  · exact lt_of_heap h.board.row.head
  · exact lt_of_heap h.board.row.body
  · exact lt_of_heap h2
  · exact h.base.lt
  · exact h.was.lt
  · exact h.fresh.lt

theorem OvStep.grownNew {s : OvB} {a w w' : World} {R : Nat} (h : OvStep s a w) (hg : w.grownBy w' (some R)) (hR : a.heap.size ≤ R) : OvStep s a w' :=
  Kept.grown (K := fun k => k < a.heap.size ∧ k ≠ s.b ∧ k ≠ s.f ∧ k ≠ s.X ∧ k ≠ s.Y ∧ k ≠ s.Z) h hg fun k hk => ⟨Nat.lt_of_lt_of_le hk.1 h.size, fun e => by
    simp only [Option.some.injEq] at e
    have := hk.1
    omega⟩
set_option maxHeartbeats 4000000 in
theorem com12_any (w : World) (q : Nat) (s : OvB) (O : Ov) (t : Int) (hO : OvAt w q s O) (hl : OvSmall O) (hok : OvOk O t) (ht : Steps w) (hsl : ∀ m ∈ O.was, I64 m.s) :
    Calls Tryd.prog 9 #[.pointer (some ⟨q, 0, none⟩)] w fun x w' => x = .returned (.tuple #[]) ∧ OvAt w' q s (commitO O) ∧ OvStep s w w' := by
  have HO : Hid (OvAt w q s O) := hO
  have HL : Hid (O.base.length ≤ 490 ∧ O.was.length ≤ 490 ∧ O.fresh.length ≤ 490) := hl
  have HOK : Hid (OvOk O t) := hok
  have HT : Hid (Steps w) := ht
  have HP3 : Hid (Calls Tryd.prog 16 #[.map (some s.Y)] w.drew fun e w' => ∃ u, e = .returned u ∧ Nums w' u (slotsL O.was) ∧ Below w.heap.size w w' ∧ ∀ g, u.ownBlock = some g → w.heap.size ≤ g) := (places12_any w.drew s.Y O.was hO.was.drew (by have := hl.2.1; omega) hsl).mono fun e w' ⟨u, h1, h2, h3, h4⟩ => ⟨u, h1, h2, below_undrew h3, h4⟩
  have HGI : Hid (∀ W u, Below w.heap.size w W → Nums W u (slotsL O.was) → (∀ g, u.ownBlock = some g → w.heap.size ≤ g) → Calls Tryd.prog 20 #[.pointer (some ⟨s.h, 0, none⟩), u] W fun x w' => x = .returned (.int .i64 0) ∧ OvAt w' q s { O with B := giveB O.B (slotsL O.was) } ∧ OvStep s w w') := fun W u hb hn hg => by
    have ho := HO.out.kept hb
    have l1 := HO.out.lts (i := s.b) (by simp)
    have l2 := HO.out.lts (i := s.f) (by simp)
    refine (give_any W s.h s.p s.b s.f s.cap O.n O.B u (slotsL O.was) ho.board (HT.out.below hb) hn (fun e => by have := hg _ e; omega) (fun e => by have := hg _ e; omega) ho.pos).mono ?_
    rintro x w' ⟨⟨-, rfl, h3⟩ | ⟨h3, -⟩, h4⟩
    · exact ⟨rfl, ho.boardTo h4 h3, (OvStep.ofBelow hb).trans (.ofOnly2 h4)⟩
    · exact absurd (was_good HOK.out) h3
  have HS : Hid (∀ W O', OvAt W q s O' → W.cell? ⟨q, 0, none⟩ = some (.pointer (some ⟨s.h, 0, none⟩)) ∧ W.cell? ⟨q, 2, none⟩ = some (.map (some s.Y))) := fun W O' ho => ⟨ho.cells.1, ho.cells.2.2.1⟩
  clear hO hl hok ht hsl
  go_enter Tryd.func9, Tryd.ntmps9
  go_wp2_with fail
  go_region_held3 (fun w' => w'.cell? ⟨q, 0, none⟩ = some (.pointer (some ⟨s.h, 0, none⟩)) ∧ w'.cell? ⟨q, 2, none⟩ = some (.map (some s.Y))) (first | exact HS.out _ _ HO.out.drew | exact HS.out _ _ HO1.out | exact HS.out _ _ HO2.out) (first
    | (go_at_call 16; with_reducible refine HP3.out.mono ?_; rintro e w1 ⟨u1, rfl, hn1, hb1, hg1⟩
       have HG2 := HGI.out w1 u1 hb1 hn1 hg1
       have HO1 : Hid (OvAt w1 q s O) := HO.out.kept hb1
       clear hn1 hb1 hg1)
    | (go_at_call 20; with_reducible refine HG2.mono ?_; rintro e w2 ⟨rfl, ho2, hs2⟩
       have HO2 : Hid (OvAt w2 q s { O with B := giveB O.B (slotsL O.was) }) := ho2
       have HS2 : Hid (OvStep s w w2) := hs2
       clear ho2 hs2))
  all_goals
    obtain ⟨w3, hcl, hm3, hg3⟩ := HO2.out.was.clear 0
    have hcl' : (Builtin.clear_ #[52] 0 #[.map (some s.Y)]).run Tryd.prog w2 = .ok (.tuple #[]) w3 := hcl
    have HO3 : Hid (OvAt w3 q s { O with B := giveB O.B (slotsL O.was), was := [] }) := HO2.out.wasTo hg3 hm3
    have HS3 : Hid (OvStep s w w3) := HS2.out.grown hg3 (.inr (.inl rfl))
    obtain ⟨-, -, c2, -⟩ := HO2.out.cells
    obtain ⟨d0, d1, d2, d3⟩ := HO3.out.cells
    obtain ⟨D, hown, hD⟩ := HO3.out.fresh
    have HD : Hid (EntL D O.fresh) := hD
    have HSD : Hid (Maps.size D ≤ 490) := by unfold Hid; rw [hD.size]; exact HL.out.2.2
    obtain ⟨n, hn⟩ : ∃ n, n = O.fresh.length := ⟨_, rfl⟩
    rw [← hn] at hown
    clear hcl hm3 hg3 HG2 HGI HP3 HS HO1 hD hn
    go_wp2_with (first
      | (at_range; refine wpList_range_own _ rfl _ 52 rfl 29 34 lawK Tryd.underlying52 entR s.Z n D rfl hown ?_; intro w0 hrg0 hg0 hs0)
      | go_in)
    go_frame
    obtain ⟨R, hR⟩ : ∃ R, R = w3.heap.size := ⟨_, rfl⟩
    have HBL : Hid (∀ i, i = q ∨ i = s.h ∨ i = s.p ∨ i = s.b ∨ i = s.f ∨ i = s.X ∨ i = s.Y ∨ i = s.Z → i < R) := fun i hi => by rw [hR]; exact HO3.out.lts hi
    have HWR : Hid (w.heap.size ≤ R) := by rw [hR]; exact HS3.out.size
    have hb0 : Below w3.heap.size w3 w0 := ⟨hg0.os, hg0.tape, hg0.output, hg0.size, fun i hi => hg0.block i hi (by simp)⟩
    have HO0 : Hid (OvAt w0 q s { O with B := giveB O.B (slotsL O.was), was := [], base := layL O.base [] }) := HO3.out.kept hb0
    have HS0 : Hid (OvStep s w w0) := HS3.out.below hb0
    rw [← hR] at hrg0 hs0
    rw [← hR]
    try rw [← hR]
    clear hR hb0 HS2 HO2 HO3 HS3 c2 d0 d1 d2 d3 hcl'
    go_loopw [] (fun wr => ∃ (left : Lit → Bool) (cnt : Nat) (ss : List Md), wr.ranges Tryd.prog 29 entR s.Z R n D left cnt ∧ ss.length + cnt ≤ Maps.size D ∧ Hid (MetL O.fresh left ss) ∧
        Hid (OvAt wr q s { O with B := giveB O.B (slotsL O.was), was := [], base := layL O.base ss }) ∧ Hid (OvStep s w wr) ∧ R + 1 ≤ wr.heap.size)
      (fun wr => wr.rangeLeft s.Z R)
    case atStart =>
      exact ⟨_, _, [], hrg0, by simp, MetL.start HD.out, HO0.out, HS0.out, by omega⟩
    case round =>
      obtain ⟨left, cnt, ss, hrg, hcs, HM, HO3, HS3, hsz⟩ := hrel
      have HRG : Hid (wr.ranges Tryd.prog 29 entR s.Z R n D left cnt) := hrg
      have HCS : Hid (ss.length + cnt ≤ Maps.size D) := hcs
      have HSW : Hid (R + 1 ≤ wr.heap.size) := hsz
      clear hrg hcs hsz hown hrg0 hg0 hs0 HO0 HS0
      go_wp2_with (first
        | (at_next; refine wpList_next_ranges _ rfl _ rfl 29 lawK entR (fun x : Ky => Value.agg #[.int .i64 x.1, .int .i64 x.2]) evalE invK10 invV11 s.Z R n _ _ _ rfl HRG.out ?_ ?_)
        | go_in)
      · intro hc0 hl0
        have HALL : Hid (ss.Perm O.fresh) := HM.out.all HD.out.fit HD.out.rise hl0
        have HLY : Hid (layL O.base ss = applyM O.base O.fresh []) := layL_is HOK.out.rb HOK.out.rf HALL.out
        rw [HLY.out] at HO3
        obtain ⟨w5, hcl, hm5, hg5⟩ := HO3.out.fresh.clear 0
        have hcl' : (Builtin.clear_ #[52] 0 #[.map (some s.Z)]).run Tryd.prog wr = .ok (.tuple #[]) w5 := hcl
        have HO5 : Hid (OvAt w5 q s (commitO O)) := HO3.out.freshTo hg5 hm5
        have HS5 : Hid (OvStep s w w5) := HS3.out.grown hg5 (.inr (.inr rfl))
        obtain ⟨-, -, -, c3⟩ := HO3.out.cells
        clear hc0 hl0 hcl hm5 hg5 HRG HM HALL HCS HLY
        go_wp2
        go_end0
        exact ⟨rfl, HO5.out, HS5.out⟩
      · intro h p e1 e2 e3 kl yd yp w2 cnt2 hkey hlk hv hat hrg2 hlt2 hg2 hs2 hen
        obtain ⟨x, hx', ex, rfl⟩ := keyOf_inv hkey
        obtain ⟨h', p'⟩ := x
        simp only [Value.agg.injEq, Array.mk.injEq, List.cons.injEq, Value.int.injEq, true_and, and_true] at ex
        obtain ⟨rfl, rfl⟩ := ex
        obtain ⟨⟨s', g', u'⟩, ev, ey⟩ := entR_inv hv
        simp only [evalE, Value.agg.injEq, Array.mk.injEq, List.cons.injEq, Value.int.injEq, true_and, and_true] at ev
        obtain ⟨rfl, rfl, e4⟩ := ev
        obtain rfl : e3 = u' := by omega
        clear e4
        simp only [Prod.mk.injEq] at ey
        obtain ⟨rfl, rfl⟩ := ey
        have HF : Hid (findM O.fresh (h, p) = some (e1, e2, e3)) := HD.out.at_ hx' hat
        have HM2 : Hid (MetL O.fresh (fun z => left z && !z.sameKey (klit (h, p))) (ss ++ [md (h, p) (e1, e2, e3)])) := HM.out.step (D := D) hx' hlk HF.out
        have HX : Hid (KI (h, p)) := hx'
        have HO4 : Hid (OvAt w2 q s { O with B := giveB O.B (slotsL O.was), was := [], base := layL O.base ss }) := HO3.out.blocks fun i hi => grown_block hg2 (HO3.out.lts hi) (Nat.ne_of_lt (HBL.out i hi))
        have HS4 : Hid (OvStep s w w2) := HS3.out.grownNew hg2 HWR.out
        have HS2 : Hid (R + 1 ≤ w2.heap.size) := Nat.le_trans HSW.out hg2.size
        have HRG2 : Hid (w2.ranges Tryd.prog 29 entR s.Z R n D (fun z => left z && !z.sameKey (klit (h, p))) cnt2) := hrg2
        have HLT : Hid (cnt2 < cnt) := hlt2
        have hm2 := HRG.out.left_eq
        clear hkey hlk hv hat hrg2 hlt2 hg2 hs2 hx' HM HO3 HS3 HF
        obtain ⟨V, hV⟩ : ∃ V, V = (w2.alloc (.cells #[.int .i64 h, .int .i64 p] 29)).alloc (.cells #[.int .i64 e1, .int .i64 e2, .int .u32 (e3 : Nat)] 34) := ⟨_, rfl⟩
        have hs : (w2.alloc (.cells #[.int .i64 h, .int .i64 p] 29)).heap.size = w2.heap.size + 1 := by simp
        have HBV : Hid (Below w2.heap.size w2 V) := by rw [hV]; exact ((Below.refl _ _).alloc (Nat.le_refl _) _).alloc (by simp) _
        have HGA : Hid (V.heap[w2.heap.size]? = some (.cells #[.int .i64 h, .int .i64 p] 29 (0, 0))) := by
          rw [hV]
          exact (((Below.refl _ _).alloc (Nat.le_refl _) _ : Below _ (w2.alloc (.cells #[.int .i64 h, .int .i64 p] 29)) _).block w2.heap.size (by simp)).trans (heap_alloc_new w2 _)
        have HGE : Hid (V.heap[w2.heap.size + 1]? = some (.cells #[.int .i64 e1, .int .i64 e2, .int .u32 (e3 : Nat)] 34 (0, 0))) := by
          have := heap_alloc_new (w2.alloc (.cells #[.int .i64 h, .int .i64 p] 29)) (.cells #[.int .i64 e1, .int .i64 e2, .int .u32 (e3 : Nat)] 34)
          rw [hs] at this
          rw [hV]; exact this
        have HRV : Hid (V.drew.ranges Tryd.prog 29 entR s.Z R n D (fun z => left z && !z.sameKey (klit (h, p))) cnt2) := by
          refine World.ranges.kept (w := V) ?_ (grown_below (Below.refl _ _).drew) (by simp) (by simp)
          rw [hV]
          exact (HRG2.out.alloc _).alloc _
        have HOV : Hid (OvAt V q s { O with B := giveB O.B (slotsL O.was), was := [], base := layL O.base ss }) := HO4.out.kept HBV.out
        have HSV : Hid (OvStep s w V) := HS4.out.below HBV.out
        have HLB : Hid (MapL V s.X (layL O.base ss)) := HOV.out.base
        obtain ⟨V2, hup, hm, hg⟩ := HLB.out.drew.put (by have h1 := layL_len HOK.out.rb ss; have := HL.out; have := HCS.out; have := HSD.out; omega) HX.out (e1, e2, e3)
        have HUP : (Instr.mapUpdate 52 (.map (some s.X)) (.agg #[.int .i64 h, .int .i64 p]) (.agg #[.int .i64 e1, .int .i64 e2, .int .u32 (e3 : Nat)])).run Tryd.prog V.drew = .ok () V2 := hup
        have HO5 : Hid (OvAt V2 q s { O with B := giveB O.B (slotsL O.was), was := [], base := layL O.base (ss ++ [md (h, p) (e1, e2, e3)]) }) := by
          unfold Hid
          rw [layL_snoc]
          exact HOV.out.drew.baseTo hg hm
        have HS5 : Hid (OvStep s w V2) := HSV.out.drew.grown hg (.inl rfl)
        have HRG5 : Hid (V2.ranges Tryd.prog 29 entR s.Z R n D (fun z => left z && !z.sameKey (klit (h, p))) cnt2) := HRV.out.kept hg (fun e => HOV.out.ne.2.1 (Option.some.inj e).symm) (fun e => by have := HBL.out s.X (by simp); have := Option.some.inj e; omega)
        have HZ5 : Hid (R + 1 ≤ V2.heap.size) := Nat.le_trans HS2.out (Nat.le_trans HBV.out.size hg.size)
        have HSS : Hid (∀ W, Below V.heap.size V W → ((W.cell? ⟨w2.heap.size, 0, none⟩ = some (.int .i64 h) ∧ W.cell? ⟨w2.heap.size, 1, none⟩ = some (.int .i64 p)) ∧ W.cell? ⟨q, 1, none⟩ = some (.map (some s.X))) ∧ W.cell? ⟨w2.heap.size + 1, 0, none⟩ = some (.int .i64 e1) ∧ W.cell? ⟨w2.heap.size + 1, 1, none⟩ = some (.int .i64 e2) ∧ W.cell? ⟨w2.heap.size + 1, 2, none⟩ = some (.int .u32 (e3 : Nat))) := fun W hb => ⟨⟨cells2' ((hb.block _ (lt_of_heap HGA.out)).trans HGA.out), (HOV.out.kept hb).cells.2.1⟩, (cells3' ((hb.block _ (lt_of_heap HGE.out)).trans HGE.out)).1⟩
        have HSE : Hid (((V2.cell? ⟨w2.heap.size, 0, none⟩ = some (.int .i64 h) ∧ V2.cell? ⟨w2.heap.size, 1, none⟩ = some (.int .i64 p)) ∧ V2.cell? ⟨q, 1, none⟩ = some (.map (some s.X))) ∧ V2.cell? ⟨w2.heap.size + 1, 0, none⟩ = some (.int .i64 e1) ∧ V2.cell? ⟨w2.heap.size + 1, 1, none⟩ = some (.int .i64 e2) ∧ V2.cell? ⟨w2.heap.size + 1, 2, none⟩ = some (.int .u32 (e3 : Nat))) :=
          ⟨⟨cells2' ((grown_block hg (lt_of_heap (w := V.drew) HGA.out) (ne_map HGA.out HLB.out)).trans HGA.out), HO5.out.cells.2.1⟩, (cells3' ((grown_block hg (lt_of_heap (w := V.drew) HGE.out) (ne_map HGE.out HLB.out)).trans HGE.out)).1⟩
        have hm1 := HRG5.out.left_eq
        go_wp2_with fail
        rw [← hV]
        try rw [hs]
        generalize w2.heap.size = A at *
        generalize hE : A + 1 = E at *
        clear hV hs hup hm hg hE HBV HGA HGE HLB HRV HRG2 HS2 HO4 HS4 HX hen
        go_region_held3 (fun w' => ((w'.cell? ⟨A, 0, none⟩ = some (.int .i64 h) ∧ w'.cell? ⟨A, 1, none⟩ = some (.int .i64 p)) ∧ w'.cell? ⟨q, 1, none⟩ = some (.map (some s.X))) ∧ w'.cell? ⟨E, 0, none⟩ = some (.int .i64 e1) ∧ w'.cell? ⟨E, 1, none⟩ = some (.int .i64 e2) ∧ w'.cell? ⟨E, 2, none⟩ = some (.int .u32 (e3 : Nat))) (first | exact HSS.out _ (Below.refl _ _).drew | exact HSE.out) (fail)
        all_goals
          clear HSS HSE HUP
          go_wp2
          go_roundw
          case rel =>
            exact ⟨_, cnt2, ss ++ [md (h, p) (e1, e2, e3)], HRG5.out, by have := HCS.out; have := HLT.out; simp; omega, HM2.out, HO5.out, HS5.out, HZ5.out⟩
          case measure => rw [hm1, hm2]; exact HLT.out
end Go.Proofs.YtjhkcdnfnmglhaaDoor

/- The document's board; 'Ints', 'Free'. -/
namespace Go.Proofs.YtjhkcdnfnmglhaaDoor
open Go.RowKit
set_option linter.unusedVariables false
set_option maxRecDepth 20000
/-! ### Ints -/
theorem take_succ_int {us vs : List Int} {k : Nat} (h1 : k < us.length) (h2 : k < vs.length) (h : us.take k = vs.take k) (e : us[k]?.getD 0 = vs[k]?.getD 0) : us.take (k + 1) = vs.take (k + 1) := by
  rw [take_one h1, take_one h2, h, e]
/-! ### Free -/
end Go.Proofs.YtjhkcdnfnmglhaaDoor

/- The document's 'Give'. -/
namespace Go.Proofs.YtjhkcdnfnmglhaaDoor
open Go.RowKit
set_option linter.unusedVariables false
set_option maxRecDepth 20000
theorem goodG_step' {n j s : Nat} {B : Nat → Bool} {zs : List Int} (hg : GoodG n B (zs.take j)) (hj : j < zs.length) (hz : zs[j]?.getD 0 = (s : Int)) (hs : s < n) (hB : B s = true) (hn : ∀ i, i < j → zs[i]?.getD 0 ≠ (s : Int)) :
    GoodG n B (zs.take (j + 1)) := by
  refine (goodG_step hg hj hz hs (giveB_is hB fun hm => ?_)).1
  obtain ⟨i, h1, h2, h3⟩ := mem_take hm
  exact hn i h1 (by rw [h3]; rfl)
theorem giveB_mem {B : Nat → Bool} {zs : List Int} {s : Nat} (h : (s : Int) ∈ zs) : giveB B zs s = false := by
  unfold giveB
  rw [List.contains_iff_mem.2 h]
  simp
end Go.Proofs.YtjhkcdnfnmglhaaDoor

/- The document's 'New' and 'Clusters'. -/
namespace Go.Proofs.YtjhkcdnfnmglhaaDoor
open Go.RowKit
set_option linter.unusedVariables false
set_option maxRecDepth 20000
/-! ### Clusters -/
theorem fr_part {B : Nat → Bool} {n c m : Nat} (ht : ∀ i, n ≤ i → B i = false) (hm : m = min 64 (n - 64 * c)) : m - cnt B (64 * c) m = fr B n c := by
  unfold fr
  rw [← hm]
  have e : (64 : Nat) = m + (64 - m) := by omega
  rw [show cnt B (64 * c) 64 = cnt B (64 * c) (m + (64 - m)) by rw [← e], cnt_add, cnt_none (k := 64 - m) fun i hi => ht _ (by omega)]
  omega
theorem frL_snoc (B : Nat → Bool) (n c : Nat) : frL B n c ++ [(fr B n c : Int)] = frL B n (c + 1) := by
  unfold frL
  rw [List.range_succ, List.map_append, List.map_singleton]
end Go.Proofs.YtjhkcdnfnmglhaaDoor

/- The document's 'Take' and 'Run'. -/
namespace Go.Proofs.YtjhkcdnfnmglhaaDoor
open Go.RowKit
set_option linter.unusedVariables false
set_option maxRecDepth 20000
/-! ### Run -/
end Go.Proofs.YtjhkcdnfnmglhaaDoor

/- The document's overlay: the object in memory; put, one, retire, Get. -/
namespace Go.Proofs.YtjhkcdnfnmglhaaDoor
open Go.RowKit
set_option linter.unusedVariables false
set_option maxRecDepth 20000

theorem KI_right {k : Ky} (h : isR k = true) : KI k := by
  have := isR_iff.1 h
  unfold KI I64
  omega
theorem new_kv (V : World) (u v : Value) (t : TypeId) : (V.alloc (.cells #[u, v] t)).cell? ⟨V.heap.size, 0, none⟩ = some u ∧ (V.alloc (.cells #[u, v] t)).cell? ⟨V.heap.size, 1, none⟩ = some v :=
  ⟨by simp, by simp⟩
/-! ### The object -/
/-- The block of a list that isn't empty. -/
def OwnsL (l : List Md) (v : Value) (g : Nat) : Prop := l ≠ [] ∧ v.ownBlock = some g
theorem Els.sparedN {w w' : World} {v : Value} {xs : List Md} (h : Els encM 5 w v xs) (hs : w.heap.size ≤ w'.heap.size) (hg : ∀ g, OwnsL xs v g → g < w.heap.size → w'.heap[g]? = w.heap[g]?) : Els encM 5 w' v xs := by
  by_cases h0 : xs = []
  · subst h0
    obtain ⟨h2, a, cap, rfl, h3, h4, h5⟩ := h
    refine ⟨h2, a, cap, rfl, h3, h4, ?_⟩
    rcases h5 with h5 | ⟨x, rfl, h5⟩
    · exact .inl h5
    · exact .inr ⟨x, rfl, .inl rfl⟩
  · exact h.spared hs fun g hg' hl => hg g ⟨h0, hg'⟩ hl
/-- Blocks that came since. -/
def More (R R' : Nat → Prop) (w : World) : Prop := ∀ g, R' g → R g ∨ w.heap.size ≤ g
theorem More.refl (R : Nat → Prop) (w : World) : More R R w := fun _ h => .inl h
theorem More.trans {R R1 R2 : Nat → Prop} {w w1 : World} (h : More R R1 w) (k : More R1 R2 w1) (hs : w.heap.size ≤ w1.heap.size) : More R R2 w := fun g hg => (k g hg).elim (h g) fun h' => .inr (Nat.le_trans hs h')
theorem mdi_part {O : Ov} {t : Int} (h : OvOk O t) (ht : t ≤ 1000000000000000) {c : Nat} (hc : c < 3) (hr : Rise (O.part c)) : ∀ m ∈ O.part c, MdI m := by
  intro m hm
  have h0 : O.Has c m.k (m.s, m.g, m.u) := ⟨hc, mem_find hr.nodup hm⟩
  have h1 := h.fit _ _ _ h0
  obtain ⟨s, h2, h3⟩ := h.range _ _ _ h0
  have h4 := KI_right h1.1
  have h5 := h.n2
  simp only at h1 h2
  refine ⟨h4.1, h4.2, ?_, ?_, h1.2.2.2⟩ <;> unfold I64 <;> omega
theorem OvOk.mdB {O : Ov} {t : Int} (h : OvOk O t) (ht : t ≤ 1000000000000000) : ∀ m ∈ O.base, MdI m := mdi_part h ht (c := 0) (by decide) h.rb
theorem OvOk.mdW {O : Ov} {t : Int} (h : OvOk O t) (ht : t ≤ 1000000000000000) : ∀ m ∈ O.was, MdI m := mdi_part h ht (c := 1) (by decide) h.rw
theorem OvOk.mdF {O : Ov} {t : Int} (h : OvOk O t) (ht : t ≤ 1000000000000000) : ∀ m ∈ O.fresh, MdI m := mdi_part h ht (c := 2) (by decide) h.rf
end Go.Proofs.YtjhkcdnfnmglhaaDoor

/- The document's overlay: Get. -/
namespace Go.Proofs.YtjhkcdnfnmglhaaDoor
open Go.RowKit
set_option linter.unusedVariables false
set_option maxRecDepth 20000
end Go.Proofs.YtjhkcdnfnmglhaaDoor

/- The document's overlay: one, retire. (Written by wip/mk_ref12b.py.) -/
namespace Go.Proofs.YtjhkcdnfnmglhaaDoor
open Go.RowKit
set_option linter.unusedVariables false
set_option maxRecDepth 20000
/-! ### retire -/
theorem only2_set {p b i : Nat} {a w : World} (h : Only2 p b a w) (u : Value) : Only2 p b a (w.setCell ⟨p, i, none⟩ u) := Kept.setCell (K := fun k => k < a.heap.size ∧ k ≠ p ∧ k ≠ b) h (fun hk => hk.2.1 rfl) u
theorem only2_below {p b : Nat} {a w w' : World} (h : Only2 p b a w) (hb : Below w.heap.size w w') : Only2 p b a w' := h.trans (Kept.ofBelow hb fun _ hk => hk.1)
theorem keep5 {w : World} {p X Z i : Nat} {v : Value} {h q s g : Int} {u : Nat} (hX : p ≠ X) (hZ : p ≠ Z) (hc : (w.cell? ⟨X, 0, none⟩ = some (.int .i64 h) ∧ w.cell? ⟨X, 1, none⟩ = some (.int .i64 q)) ∧ w.cell? ⟨Z, 0, none⟩ = some (.int .i64 s) ∧ w.cell? ⟨Z, 1, none⟩ = some (.int .i64 g) ∧ w.cell? ⟨Z, 2, none⟩ = some (.int .u32 (u : Nat))) :
    ((w.setCell ⟨p, i, none⟩ v).cell? ⟨X, 0, none⟩ = some (.int .i64 h) ∧ (w.setCell ⟨p, i, none⟩ v).cell? ⟨X, 1, none⟩ = some (.int .i64 q)) ∧ (w.setCell ⟨p, i, none⟩ v).cell? ⟨Z, 0, none⟩ = some (.int .i64 s) ∧ (w.setCell ⟨p, i, none⟩ v).cell? ⟨Z, 1, none⟩ = some (.int .i64 g) ∧ (w.setCell ⟨p, i, none⟩ v).cell? ⟨Z, 2, none⟩ = some (.int .u32 (u : Nat)) := by
  have one : ∀ (b j : Nat), p ≠ b → (w.setCell ⟨p, i, none⟩ v).cell? ⟨b, j, none⟩ = w.cell? ⟨b, j, none⟩ := fun b j hne => World.cell?_setCell_other _ _ _ _ (fun e => hne (by cases e; rfl))
  exact ⟨⟨(one _ _ hX).trans hc.1.1, (one _ _ hX).trans hc.1.2⟩, (one _ _ hZ).trans hc.2.1, (one _ _ hZ).trans hc.2.2.1, (one _ _ hZ).trans hc.2.2.2⟩

end Go.Proofs.YtjhkcdnfnmglhaaDoor
