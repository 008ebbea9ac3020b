/- Some texts of mine, one behind the other (joined by program). -/
import Derived.Test.YtjhkcdnfnmglhaaGreatDoorJ9

/- The document's overlay: Slots. (Written by wip/mk_slots12.py.) -/
namespace Go.Proofs.YtjhkcdnfnmglhaaGreatDoor
open Go.RowKit
set_option linter.unusedVariables false
set_option maxRecDepth 20000

theorem nums_back0 {w : World} {g m cap j : Nat} {S : List Int} (h : Nums w (.slice (some ⟨g, 0, none⟩) m cap) S) (hj : j < m) (h1 : m ≤ cap) (h2 : cap ≤ maxLen) : Nums w (.slice (some ⟨g, j, none⟩) (m - j) (cap - j)) (S.drop j) := by
  have := Nums.back (cap' := cap - j) h hj (by omega) (by omega)
  rwa [Nat.zero_add] at this
theorem nums_none {S : List Int} {j : Nat} (w : World) (a : Addr) (n c : Nat) (h : j = S.length) (hn : n = 0 := by omega) (hc : c ≤ maxLen := by omega) : Nums w (.slice (some a) n c) (S.drop j) := by
  subst h hn
  rw [List.drop_length]
  exact ⟨by simp, by simp, some a, c, rfl, Nat.zero_le _, hc, .inr ⟨a, rfl, .inl rfl⟩⟩
def posI (z : Int) (S : List Int) : Nat := (S.takeWhile fun y => decide (y < z)).length
theorem posI_le (z : Int) (S : List Int) : posI z S ≤ S.length := by
  have := congrArg List.length (List.takeWhile_append_dropWhile (p := fun y => decide (y < z)) (l := S))
  rw [List.length_append] at this
  unfold posI
  omega
theorem posI_below (z : Int) (S : List Int) : ∀ (j : Nat) (y : Int), S[j]? = some y → j < posI z S → y < z := by
  intro j y hj hq
  have h1 := List.takeWhile_append_dropWhile (p := fun y => decide (y < z)) (l := S)
  rw [← h1, List.getElem?_append_left hq] at hj
  have h2 := List.all_takeWhile (p := fun y => decide (y < z)) (l := S)
  rw [List.all_eq_true] at h2
  simpa using h2 y (List.mem_of_getElem? hj)
theorem posI_stop (z : Int) : ∀ (S : List Int) (y : Int), S[posI z S]? = some y → ¬ y < z
  | [], y, h => by simp [posI] at h
  | a :: r, y, h => by
    by_cases ha : a < z
    · have e : posI z (a :: r) = posI z r + 1 := by simp [posI, ha]
      rw [e, List.getElem?_cons_succ] at h
      exact posI_stop z r y h
    · have e : posI z (a :: r) = 0 := by simp [posI, ha]
      rw [e, List.getElem?_cons_zero, Option.some.injEq] at h
      subst h
      exact ha
theorem insI_eq (S : List Int) (z : Int) : insI S z = S.take (posI z S) ++ z :: S.drop (posI z S) := by
  have h1 := List.takeWhile_append_dropWhile (p := fun y => decide (y < z)) (l := S)
  unfold insI posI
  generalize List.takeWhile (fun y => decide (y < z)) S = A at *
  generalize List.dropWhile (fun y => decide (y < z)) S = B at *
  subst h1
  rw [List.take_left, List.drop_left]
theorem take_snocM {l : List Md} {k : Nat} {m : Md} (h : l[k]? = some m) : l.take (k + 1) = l.take k ++ [m] := by
  obtain ⟨hk, e⟩ := List.getElem?_eq_some_iff.1 h
  rw [List.take_succ_eq_append_getElem hk, e]

set_option maxHeartbeats 4000000 in
theorem refSlots12 : SlotsOk12 := by
  intro w v l hv hl hm
  obtain ⟨i0, hi, hz0, hz1, hz2⟩ := info_parts Tryz.infoI64
  obtain ⟨a, ca, rfl⟩ := hv.shape
  obtain ⟨n, hn⟩ : ∃ n, n = l.length := ⟨_, rfl⟩
  rw [← hn] at hv hl ⊢
  have HN : Hid (n = l.length) := hn
  have HV : Hid (Els encM 5 w (.slice a n ca) l) := hv
  have HM : Hid (∀ m ∈ l, MdI m) := hm
  clear hn hv hm
  go_enter Tryz.func43, Tryz.ntmps43
  go_wp2_with fail
  go_loopw [3, 4] (fun v i wr => ∃ k : Nat, i = .int .i64 (k : Nat) ∧ k ≤ n ∧ wr.ownsRow w.heap.size 3 1 v (slotsL (l.take k)).length (nums (slotsL (l.take k))) ∧ Hid (Below w.heap.size w wr) ∧ Hid (v = .slice none 0 0 ∨ 0 < (slotsL (l.take k)).length)) (fun _ i _ => n - (intOf i).toNat)
  case atStart => exact ⟨0, rfl, Nat.zero_le _, World.ownsRow_nil _ _ _ _, Below.refl _ _, .inl rfl⟩
  case round =>
    obtain ⟨k, rfl, hk, hrow, HB, HNZ⟩ := hrel
    have HRO : Hid (wr.ownsRow w.heap.size 3 1 u3 (slotsL (l.take k)).length (nums (slotsL (l.take k)))) := hrow
    clear hrow
    have HKT : Hid (∀ y ∈ slotsL (l.take k), I64 y) := fun y h => by
      obtain ⟨m, hm1, rfl⟩ := slots_mem.1 h
      exact (HM.out m (List.mem_of_mem_take hm1)).2.2.1
    have HLL : Hid ((slotsL (l.take k)).length ≤ 99) := by
      have h1 := slots_len (l.take k)
      rw [List.length_take] at h1
      unfold Hid
      omega
    have HKO : Hid (Nums wr u3 (slotsL (l.take k))) := Nums.ofOwn HRO.out HKT.out
    by_cases hlt : k < n
    · obtain ⟨b, off, rfl, hb, hc⟩ := (HV.out.kept HB.out).md (by omega)
      obtain ⟨mh, mp, z, mg, mu, hkk⟩ := md_at (xs := l) (j := k) (by rw [← HN.out]; exact hlt)
      obtain ⟨c0, c1, c2, c3, c4⟩ := hc k _ hkk
      have HI : Hid (I64 z) := (HM.out _ (List.mem_of_getElem? hkk)).2.2.1
      have HTS : Hid (slotsL (l.take (k + 1)) = insI (slotsL (l.take k)) z) := by unfold Hid; rw [take_snocM hkk, slots_snoc]
      clear hc hb hkk c0 c1 c3 c4
      simp only at c2
      generalize hS : slotsL (l.take k) = S at *
      clear hS
      have HE : Hid (slotsL (l.take (k + 1)) = S.take (posI z S) ++ z :: S.drop (posI z S)) := by unfold Hid; rw [HTS.out, insI_eq]
      obtain ⟨q, hq⟩ : ∃ q, q = posI z S := ⟨_, rfl⟩
      rw [← hq] at HE
      have HPQ : Hid (posI z S = q) := hq.symm
      have HPL : Hid (q ≤ S.length) := by rw [hq]; exact posI_le _ _
      clear hq HTS
      obtain ⟨m, hm⟩ : ∃ m, m = S.length := ⟨_, rfl⟩
      rw [← hm] at HPL HRO HLL HNZ
      have HML : Hid (m = S.length) := hm
      clear hm
      have HB' := HB
      clear HB
      have HB := HB'
      clear HB'
      generalize hwo : wr = wo at *
      clear hwo
      rcases HRO.out.2 with ⟨rfl, hm0⟩ | ⟨g, cap, cur, rfl, hbase, hbl, g1, g2, g3, g4⟩
      · have HSn : Hid (S = []) := List.eq_nil_of_length_eq_zero (by have := HML.out; omega)
        have hq0 : q = 0 := by have := HPL.out; omega
        subst hm0 hq0
        go_wp2_with fail
        go_loopw [6] (fun i wi => ∃ j : Nat, i = .int .i64 (j : Nat) ∧ j ≤ 0 ∧ Hid (Below wo.heap.size wo wi)) (fun i _ => 0 - (intOf i).toNat)
        case atStart => exact ⟨0, rfl, Nat.zero_le _, Below.refl _ _⟩
        case round =>
          obtain ⟨j, rfl, hj, HBI⟩ := hrel
          have hj0 : j = 0 := by omega
          subst hj0
          have HBI' : Hid (Below wo.heap.size wo wr) := HBI.out
          clear HBI
          have HBI := HBI'
          clear HBI'
          generalize wr = wz at *
          have HA1 : Hid (Nums wz (.slice none 0 0) (S.take 0)) := (by rw [HSn.out, List.take_nil]; exact Nums.nil _)
          have HA2 : Hid (∀ W, Below wz.heap.size wz W → Nums W (.slice none 0 0) (S.drop 0)) := fun W hW => Nums.kept (by rw [HSn.out, List.drop_nil]; exact Nums.nil _) hW
          have HLA : Hid ((S.take 0).length ≤ 1000 ∧ (S.drop 0).length ≤ 1000 ∧ (S.take 0).length + (S.drop 0).length ≤ 1000) := by
            have h1 := HLL.out
            have h2 := HML.out
            refine ⟨?_, ?_, ?_⟩ <;> (try rw [List.length_take]) <;> (try rw [List.length_drop]) <;> omega
          go_wp2_with (first
            | (at_builtin; refine wpList_append_nums _ rfl _ _ 63 (by rfl) wz.heap.size 3 i0 Tryz.underlying63 hi hz0 hz1 hz2 (.slice none 0 0) 0 [] (by rfl) (World.ownsRow_nil _ _ _ _) (.slice none 0 0) (S.take 0) (by rfl) HA1.out (by have := HLA.out.1; omega) (Nat.le_refl _) ?_; intro v7 w7 hown7 hg7 hat7; have HO7 : Hid (w7.ownsRow wz.heap.size 3 1 v7 (0 + (S.take 0).length) (nums ([] ++ S.take 0))) := hown7; have HB7 : Hid (Below wz.heap.size wz w7) := ⟨hg7.os, hg7.tape, hg7.output, hg7.size, fun i hi => hg7.block i hi (by simp [Value.ownBlock])⟩; have HK1 : Hid (Nums (w7.alloc (.cells #[.int .i64 z] 3)) (.slice (some ⟨w7.heap.size, 0, none⟩) 1 1) [z]) := Nums.one HI.out; clear hown7 hg7 hat7; go_frame)
            | (at_builtin; refine wpList_append_nums _ rfl _ _ 63 (by rfl) wz.heap.size 3 i0 Tryz.underlying63 hi hz0 hz1 hz2 v7 (0 + (S.take 0).length) ([] ++ S.take 0) (by rfl) (HO7.out.alloc _) (.slice (some ⟨w7.heap.size, 0, none⟩) 1 1) [z] (by rfl) HK1.out (by have := HLA.out.1; simp only [List.length_singleton]; omega) (by have := HB7.out.size; simp; omega) ?_; intro v8 w8 hown8 hg8 hat8; have HO8 : Hid (w8.ownsRow wz.heap.size 3 1 v8 (0 + (S.take 0).length + [z].length) (nums ([] ++ S.take 0 ++ [z]))) := hown8; have HB8 : Hid (Below wz.heap.size wz w8) := (HB7.out.alloc HB7.out.size _).grown hg8 (by have := HB7.out.size; simp; omega) (fun i hi => (HO7.out.lt i hi).1); clear hown8 hg8 hat8; go_frame)
            | (at_builtin; refine wpList_append_nums _ rfl _ _ 63 (by rfl) wz.heap.size 3 i0 Tryz.underlying63 hi hz0 hz1 hz2 v8 (0 + (S.take 0).length + [z].length) ([] ++ S.take 0 ++ [z]) (by rfl) HO8.out (.slice none 0 0) (S.drop 0) (by rfl) (HA2.out _ HB8.out) (by have := HLA.out.2.2; simp only [List.length_singleton]; omega) HB8.out.size ?_; intro v9 w9 hown9 hg9 hat9; have HO9 : Hid (w9.ownsRow wz.heap.size 3 1 v9 (0 + (S.take 0).length + [z].length + (S.drop 0).length) (nums ([] ++ S.take 0 ++ [z] ++ S.drop 0))) := hown9; have HB9 : Hid (Below wz.heap.size wz w9) := HB8.out.grown hg9 HB8.out.size (fun i hi => (HO8.out.lt i hi).1); clear hown9 hg9 hat9; go_frame)
            | go_in)
          have HFIN : Hid (w9.ownsRow w.heap.size 3 1 v9 (slotsL (l.take (k + 1))).length (nums (slotsL (l.take (k + 1))))) := by
            have e1 : [] ++ S.take 0 ++ [z] ++ S.drop 0 = slotsL (l.take (k + 1)) := by rw [HE.out]; simp
            have e2 : 0 + (S.take 0).length + [z].length + (S.drop 0).length = (slotsL (l.take (k + 1))).length := by rw [HE.out]; simp; omega
            have := HO9.out
            rw [e1, e2] at this
            exact own_base this (by have := HB.out.size; have := HBI.out.size; omega)
          have HNF : Hid (v9 = .slice none 0 0 ∨ 0 < (slotsL (l.take (k + 1))).length) := .inr (by rw [HE.out, List.length_append, List.length_cons]; omega)
          have HBF : Hid (Below w.heap.size w w9) := HB.out.trans ((HBI.out.trans (HB9.out.mono HBI.out.size)).mono HB.out.size)
          go_roundw
          case rel => exact ⟨k + 1, by go_num, by omega, HFIN.out, HBF.out, HNF.out⟩
          case measure => simp [intOf]; omega
      · have HSW : Hid (∀ W, Below wo.heap.size wo W → ∀ j y, S[j]? = some y → W.cell? ⟨g, j, none⟩ = some (.int .i64 y)) := fun W hW j y hjk => by
          have hk1 := HKO.out.kept hW
          have hjl : j < m := by have := (List.getElem?_eq_some_iff.1 hjk).1; have := HML.out; omega
          obtain ⟨b', off', e', _, hcell⟩ := hk1.addr (by omega)
          simp only [Option.some.injEq, Addr.mk.injEq, and_true] at e'
          obtain ⟨rfl, rfl⟩ := e'
          have := hcell j hjl
          rw [hjk, Option.getD_some, Nat.zero_add] at this
          exact this
        have HM0 : Hid (0 < m) := HNZ.out.resolve_left (by simp)
        have HCP : Hid (m ≤ cap ∧ cap ≤ maxLen) := ⟨g1, g2⟩
        clear hbase hbl g3 g4 g1 g2
        go_wp2_with fail
        go_loopw [6] (fun i wi => ∃ j : Nat, i = .int .i64 (j : Nat) ∧ j ≤ q ∧ Hid (Below wo.heap.size wo wi)) (fun i _ => q - (intOf i).toNat)
        case atStart => exact ⟨0, rfl, Nat.zero_le _, Below.refl _ _⟩
        case round =>
          obtain ⟨j, rfl, hj, HBI⟩ := hrel
          by_cases hjq : j < q
          · obtain ⟨y, hkk⟩ : ∃ y, S[j]? = some y := ⟨_, List.getElem?_eq_getElem (by have := HPL.out; have := HML.out; omega)⟩
            have hyz : y < z := posI_below z S j y hkk (by rw [HPQ.out]; exact hjq)
            have z0 : wr.cell? ⟨g, j, none⟩ = some (.int .i64 y) := HSW.out wr HBI.out j _ hkk
            have hjm : j < m := by have := HPL.out; omega
            have hm1 : m ≤ 99 := HLL.out
            clear hkk
            go_wp2
            go_roundw
            case rel => exact ⟨j + 1, by go_num, by omega, HBI.out⟩
            case measure => simp [intOf]; omega
          · have hjq' : j = q := by omega
            subst hjq'
            have HBI' : Hid (Below wo.heap.size wo wr) := HBI.out
            clear HBI
            have HBI := HBI'
            clear HBI'
            generalize wr = wz at *
            by_cases hjm : j < m
            · obtain ⟨y, hkk⟩ : ∃ y, S[j]? = some y := ⟨_, List.getElem?_eq_getElem (by have := HML.out; omega)⟩
              have hyz : ¬ y < z := posI_stop z S y (by rw [HPQ.out]; exact hkk)
              have hyf : (y < z) = False := eq_false hyz
              have z0 : wz.cell? ⟨g, j, none⟩ = some (.int .i64 y) := HSW.out wz HBI.out j _ hkk
              have hm1 : m ≤ 99 := HLL.out
              have hcp1 : m ≤ cap := HCP.out.1
              have hcp2 : cap ≤ 9223372036854775807 := by have := HCP.out.2; unfold maxLen at this; omega
              have hcj : (cap = j) = False := eq_false (by omega)
              clear hkk hyz
              have HA1 : Hid (Nums wz (.slice (some ⟨g, 0, none⟩) j cap) (S.take j)) := (HKO.out.kept HBI.out).front (by omega)
              have HA2 : Hid (∀ W, Below wz.heap.size wz W → Nums W (.slice (some ⟨g, j, none⟩) (m - j) (cap - j)) (S.drop j)) := fun W hW => Nums.kept (nums_back0 (HKO.out.kept HBI.out) hjm HCP.out.1 HCP.out.2) hW
              have HLA : Hid ((S.take j).length ≤ 1000 ∧ (S.drop j).length ≤ 1000 ∧ (S.take j).length + (S.drop j).length ≤ 1000) := by
                have h1 := HLL.out
                have h2 := HML.out
                refine ⟨?_, ?_, ?_⟩ <;> (try rw [List.length_take]) <;> (try rw [List.length_drop]) <;> omega
              go_wp2_with (first
                | (at_builtin; refine wpList_append_nums _ rfl _ _ 63 (by rfl) wz.heap.size 3 i0 Tryz.underlying63 hi hz0 hz1 hz2 (.slice none 0 0) 0 [] (by rfl) (World.ownsRow_nil _ _ _ _) (.slice (some ⟨g, 0, none⟩) j cap) (S.take j) (by rfl) HA1.out (by have := HLA.out.1; omega) (Nat.le_refl _) ?_; intro v7 w7 hown7 hg7 hat7; have HO7 : Hid (w7.ownsRow wz.heap.size 3 1 v7 (0 + (S.take j).length) (nums ([] ++ S.take j))) := hown7; have HB7 : Hid (Below wz.heap.size wz w7) := ⟨hg7.os, hg7.tape, hg7.output, hg7.size, fun i hi => hg7.block i hi (by simp [Value.ownBlock])⟩; have HK1 : Hid (Nums (w7.alloc (.cells #[.int .i64 z] 3)) (.slice (some ⟨w7.heap.size, 0, none⟩) 1 1) [z]) := Nums.one HI.out; clear hown7 hg7 hat7; go_frame)
                | (at_builtin; refine wpList_append_nums _ rfl _ _ 63 (by rfl) wz.heap.size 3 i0 Tryz.underlying63 hi hz0 hz1 hz2 v7 (0 + (S.take j).length) ([] ++ S.take j) (by rfl) (HO7.out.alloc _) (.slice (some ⟨w7.heap.size, 0, none⟩) 1 1) [z] (by rfl) HK1.out (by have := HLA.out.1; simp only [List.length_singleton]; omega) (by have := HB7.out.size; simp; omega) ?_; intro v8 w8 hown8 hg8 hat8; have HO8 : Hid (w8.ownsRow wz.heap.size 3 1 v8 (0 + (S.take j).length + [z].length) (nums ([] ++ S.take j ++ [z]))) := hown8; have HB8 : Hid (Below wz.heap.size wz w8) := (HB7.out.alloc HB7.out.size _).grown hg8 (by have := HB7.out.size; simp; omega) (fun i hi => (HO7.out.lt i hi).1); clear hown8 hg8 hat8; go_frame)
                | (at_builtin; refine wpList_append_nums _ rfl _ _ 63 (by rfl) wz.heap.size 3 i0 Tryz.underlying63 hi hz0 hz1 hz2 v8 (0 + (S.take j).length + [z].length) ([] ++ S.take j ++ [z]) (by rfl) HO8.out (.slice (some ⟨g, j, none⟩) (m - j) (cap - j)) (S.drop j) (by rfl) (HA2.out _ HB8.out) (by have := HLA.out.2.2; simp only [List.length_singleton]; omega) HB8.out.size ?_; intro v9 w9 hown9 hg9 hat9; have HO9 : Hid (w9.ownsRow wz.heap.size 3 1 v9 (0 + (S.take j).length + [z].length + (S.drop j).length) (nums ([] ++ S.take j ++ [z] ++ S.drop j))) := hown9; have HB9 : Hid (Below wz.heap.size wz w9) := HB8.out.grown hg9 HB8.out.size (fun i hi => (HO8.out.lt i hi).1); clear hown9 hg9 hat9; go_frame)
                | go_in)
              have HFIN : Hid (w9.ownsRow w.heap.size 3 1 v9 (slotsL (l.take (k + 1))).length (nums (slotsL (l.take (k + 1))))) := by
                have e1 : [] ++ S.take j ++ [z] ++ S.drop j = slotsL (l.take (k + 1)) := by rw [HE.out]; simp
                have e2 : 0 + (S.take j).length + [z].length + (S.drop j).length = (slotsL (l.take (k + 1))).length := by rw [HE.out]; simp; omega
                have := HO9.out
                rw [e1, e2] at this
                exact own_base this (by have := HB.out.size; have := HBI.out.size; omega)
              have HNF : Hid (v9 = .slice none 0 0 ∨ 0 < (slotsL (l.take (k + 1))).length) := .inr (by rw [HE.out, List.length_append, List.length_cons]; omega)
              have HBF : Hid (Below w.heap.size w w9) := HB.out.trans ((HBI.out.trans (HB9.out.mono HBI.out.size)).mono HB.out.size)
              go_roundw
              case rel => exact ⟨k + 1, by go_num, by omega, HFIN.out, HBF.out, HNF.out⟩
              case measure => simp [intOf]; omega
            · have hjm' : j = m := by have := HPL.out; omega
              subst hjm'
              have hm1 : j ≤ 99 := HLL.out
              have hcp1 : j ≤ cap := HCP.out.1
              have hcp2 : cap ≤ 9223372036854775807 := by have := HCP.out.2; unfold maxLen at this; omega
              have hj0 : 0 < j := HM0.out
              by_cases hcap : cap = j
              · have hcap2 : j = cap := hcap.symm
                clear hcap
                subst hcap2
                have HA1 : Hid (Nums wz (.slice (some ⟨g, 0, none⟩) j j) (S.take j)) := (HKO.out.kept HBI.out).front (Nat.le_refl _)
                have HA2 : Hid (∀ W, Below wz.heap.size wz W → Nums W (.slice (some ⟨g, 0, none⟩) 0 0) (S.drop j)) := fun W hW => Nums.kept (nums_none _ _ _ _ HML.out (by omega) (by unfold maxLen; omega)) hW
                have HLA : Hid ((S.take j).length ≤ 1000 ∧ (S.drop j).length ≤ 1000 ∧ (S.take j).length + (S.drop j).length ≤ 1000) := by
                  have h1 := HLL.out
                  have h2 := HML.out
                  refine ⟨?_, ?_, ?_⟩ <;> (try rw [List.length_take]) <;> (try rw [List.length_drop]) <;> omega
                go_wp2_with (first
                  | (at_builtin; refine wpList_append_nums _ rfl _ _ 63 (by rfl) wz.heap.size 3 i0 Tryz.underlying63 hi hz0 hz1 hz2 (.slice none 0 0) 0 [] (by rfl) (World.ownsRow_nil _ _ _ _) (.slice (some ⟨g, 0, none⟩) j j) (S.take j) (by rfl) HA1.out (by have := HLA.out.1; omega) (Nat.le_refl _) ?_; intro v7 w7 hown7 hg7 hat7; have HO7 : Hid (w7.ownsRow wz.heap.size 3 1 v7 (0 + (S.take j).length) (nums ([] ++ S.take j))) := hown7; have HB7 : Hid (Below wz.heap.size wz w7) := ⟨hg7.os, hg7.tape, hg7.output, hg7.size, fun i hi => hg7.block i hi (by simp [Value.ownBlock])⟩; have HK1 : Hid (Nums (w7.alloc (.cells #[.int .i64 z] 3)) (.slice (some ⟨w7.heap.size, 0, none⟩) 1 1) [z]) := Nums.one HI.out; clear hown7 hg7 hat7; go_frame)
                  | (at_builtin; refine wpList_append_nums _ rfl _ _ 63 (by rfl) wz.heap.size 3 i0 Tryz.underlying63 hi hz0 hz1 hz2 v7 (0 + (S.take j).length) ([] ++ S.take j) (by rfl) (HO7.out.alloc _) (.slice (some ⟨w7.heap.size, 0, none⟩) 1 1) [z] (by rfl) HK1.out (by have := HLA.out.1; simp only [List.length_singleton]; omega) (by have := HB7.out.size; simp; omega) ?_; intro v8 w8 hown8 hg8 hat8; have HO8 : Hid (w8.ownsRow wz.heap.size 3 1 v8 (0 + (S.take j).length + [z].length) (nums ([] ++ S.take j ++ [z]))) := hown8; have HB8 : Hid (Below wz.heap.size wz w8) := (HB7.out.alloc HB7.out.size _).grown hg8 (by have := HB7.out.size; simp; omega) (fun i hi => (HO7.out.lt i hi).1); clear hown8 hg8 hat8; go_frame)
                  | (at_builtin; refine wpList_append_nums _ rfl _ _ 63 (by rfl) wz.heap.size 3 i0 Tryz.underlying63 hi hz0 hz1 hz2 v8 (0 + (S.take j).length + [z].length) ([] ++ S.take j ++ [z]) (by rfl) HO8.out (.slice (some ⟨g, 0, none⟩) 0 0) (S.drop j) (by rfl) (HA2.out _ HB8.out) (by have := HLA.out.2.2; simp only [List.length_singleton]; omega) HB8.out.size ?_; intro v9 w9 hown9 hg9 hat9; have HO9 : Hid (w9.ownsRow wz.heap.size 3 1 v9 (0 + (S.take j).length + [z].length + (S.drop j).length) (nums ([] ++ S.take j ++ [z] ++ S.drop j))) := hown9; have HB9 : Hid (Below wz.heap.size wz w9) := HB8.out.grown hg9 HB8.out.size (fun i hi => (HO8.out.lt i hi).1); clear hown9 hg9 hat9; go_frame)
                  | go_in)
                have HFIN : Hid (w9.ownsRow w.heap.size 3 1 v9 (slotsL (l.take (k + 1))).length (nums (slotsL (l.take (k + 1))))) := by
                  have e1 : [] ++ S.take j ++ [z] ++ S.drop j = slotsL (l.take (k + 1)) := by rw [HE.out]; simp
                  have e2 : 0 + (S.take j).length + [z].length + (S.drop j).length = (slotsL (l.take (k + 1))).length := by rw [HE.out]; simp; omega
                  have := HO9.out
                  rw [e1, e2] at this
                  exact own_base this (by have := HB.out.size; have := HBI.out.size; omega)
                have HNF : Hid (v9 = .slice none 0 0 ∨ 0 < (slotsL (l.take (k + 1))).length) := .inr (by rw [HE.out, List.length_append, List.length_cons]; omega)
                have HBF : Hid (Below w.heap.size w w9) := HB.out.trans ((HBI.out.trans (HB9.out.mono HBI.out.size)).mono HB.out.size)
                go_roundw
                case rel => exact ⟨k + 1, by go_num, by omega, HFIN.out, HBF.out, HNF.out⟩
                case measure => simp [intOf]; omega
              · have hcj : (cap = j) = False := eq_false hcap
                clear hcap
                have HA1 : Hid (Nums wz (.slice (some ⟨g, 0, none⟩) j cap) (S.take j)) := (HKO.out.kept HBI.out).front (Nat.le_refl _)
                have HA2 : Hid (∀ W, Below wz.heap.size wz W → Nums W (.slice (some ⟨g, j, none⟩) 0 (cap - j)) (S.drop j)) := fun W hW => Nums.kept (nums_none _ _ _ _ HML.out (by omega) (by have := HCP.out.2; omega)) hW
                have HLA : Hid ((S.take j).length ≤ 1000 ∧ (S.drop j).length ≤ 1000 ∧ (S.take j).length + (S.drop j).length ≤ 1000) := by
                  have h1 := HLL.out
                  have h2 := HML.out
                  refine ⟨?_, ?_, ?_⟩ <;> (try rw [List.length_take]) <;> (try rw [List.length_drop]) <;> omega
                go_wp2_with (first
                  | (at_builtin; refine wpList_append_nums _ rfl _ _ 63 (by rfl) wz.heap.size 3 i0 Tryz.underlying63 hi hz0 hz1 hz2 (.slice none 0 0) 0 [] (by rfl) (World.ownsRow_nil _ _ _ _) (.slice (some ⟨g, 0, none⟩) j cap) (S.take j) (by rfl) HA1.out (by have := HLA.out.1; omega) (Nat.le_refl _) ?_; intro v7 w7 hown7 hg7 hat7; have HO7 : Hid (w7.ownsRow wz.heap.size 3 1 v7 (0 + (S.take j).length) (nums ([] ++ S.take j))) := hown7; have HB7 : Hid (Below wz.heap.size wz w7) := ⟨hg7.os, hg7.tape, hg7.output, hg7.size, fun i hi => hg7.block i hi (by simp [Value.ownBlock])⟩; have HK1 : Hid (Nums (w7.alloc (.cells #[.int .i64 z] 3)) (.slice (some ⟨w7.heap.size, 0, none⟩) 1 1) [z]) := Nums.one HI.out; clear hown7 hg7 hat7; go_frame)
                  | (at_builtin; refine wpList_append_nums _ rfl _ _ 63 (by rfl) wz.heap.size 3 i0 Tryz.underlying63 hi hz0 hz1 hz2 v7 (0 + (S.take j).length) ([] ++ S.take j) (by rfl) (HO7.out.alloc _) (.slice (some ⟨w7.heap.size, 0, none⟩) 1 1) [z] (by rfl) HK1.out (by have := HLA.out.1; simp only [List.length_singleton]; omega) (by have := HB7.out.size; simp; omega) ?_; intro v8 w8 hown8 hg8 hat8; have HO8 : Hid (w8.ownsRow wz.heap.size 3 1 v8 (0 + (S.take j).length + [z].length) (nums ([] ++ S.take j ++ [z]))) := hown8; have HB8 : Hid (Below wz.heap.size wz w8) := (HB7.out.alloc HB7.out.size _).grown hg8 (by have := HB7.out.size; simp; omega) (fun i hi => (HO7.out.lt i hi).1); clear hown8 hg8 hat8; go_frame)
                  | (at_builtin; refine wpList_append_nums _ rfl _ _ 63 (by rfl) wz.heap.size 3 i0 Tryz.underlying63 hi hz0 hz1 hz2 v8 (0 + (S.take j).length + [z].length) ([] ++ S.take j ++ [z]) (by rfl) HO8.out (.slice (some ⟨g, j, none⟩) 0 (cap - j)) (S.drop j) (by rfl) (HA2.out _ HB8.out) (by have := HLA.out.2.2; simp only [List.length_singleton]; omega) HB8.out.size ?_; intro v9 w9 hown9 hg9 hat9; have HO9 : Hid (w9.ownsRow wz.heap.size 3 1 v9 (0 + (S.take j).length + [z].length + (S.drop j).length) (nums ([] ++ S.take j ++ [z] ++ S.drop j))) := hown9; have HB9 : Hid (Below wz.heap.size wz w9) := HB8.out.grown hg9 HB8.out.size (fun i hi => (HO8.out.lt i hi).1); clear hown9 hg9 hat9; go_frame)
                  | go_in)
                have HFIN : Hid (w9.ownsRow w.heap.size 3 1 v9 (slotsL (l.take (k + 1))).length (nums (slotsL (l.take (k + 1))))) := by
                  have e1 : [] ++ S.take j ++ [z] ++ S.drop j = slotsL (l.take (k + 1)) := by rw [HE.out]; simp
                  have e2 : 0 + (S.take j).length + [z].length + (S.drop j).length = (slotsL (l.take (k + 1))).length := by rw [HE.out]; simp; omega
                  have := HO9.out
                  rw [e1, e2] at this
                  exact own_base this (by have := HB.out.size; have := HBI.out.size; omega)
                have HNF : Hid (v9 = .slice none 0 0 ∨ 0 < (slotsL (l.take (k + 1))).length) := .inr (by rw [HE.out, List.length_append, List.length_cons]; omega)
                have HBF : Hid (Below w.heap.size w w9) := HB.out.trans ((HBI.out.trans (HB9.out.mono HBI.out.size)).mono HB.out.size)
                go_roundw
                case rel => exact ⟨k + 1, by go_num, by omega, HFIN.out, HBF.out, HNF.out⟩
                case measure => simp [intOf]; omega
    · have HKs : Hid (Nums wr u3 (slotsL l)) := by
        have h1 := HKO.out
        rwa [List.take_of_length_le (by rw [← HN.out]; omega)] at h1
      have HF : Hid (∀ g, u3.ownBlock = some g → w.heap.size ≤ g ∧ g < wr.heap.size) := fun g hg => HRO.out.lt g hg
      clear HRO HKO
      go_wp2
      go_ret
      exact ⟨_, rfl, HKs.out, HB.out, HF.out⟩
end Go.Proofs.YtjhkcdnfnmglhaaGreatDoor

/- The document's overlay: Gone. (Written by wip/mk_gone12.py.) -/
namespace Go.Proofs.YtjhkcdnfnmglhaaGreatDoor
open Go.RowKit
set_option linter.unusedVariables false
set_option maxRecDepth 20000

def goneT (O : Ov) (k : Nat) : List Ky := ((O.was.take k).map Md.k).filter fun k => !(findM O.fresh k).isSome
theorem gone_step {O : Ov} {k : Nat} {m : Md} (h : O.was[k]? = some m) : goneT O (k + 1) = goneT O k ++ (if (findM O.fresh m.k).isSome then [] else [m.k]) := by
  obtain ⟨hk, e⟩ := List.getElem?_eq_some_iff.1 h
  unfold goneT
  rw [List.take_succ_eq_append_getElem hk, e, List.map_append, List.filter_append]
  congr 1
  show List.filter _ [m.k] = _
  cases hc : (findM O.fresh m.k).isSome with
  | false => exact List.filter_cons_of_pos (by rw [hc]; rfl)
  | true => exact List.filter_cons_of_neg (by rw [hc]; decide)
theorem gone_all (O : Ov) {k : Nat} (h : k = O.was.length) : goneT O k = goneL O := by subst h; unfold goneT goneL; rw [List.take_length]
theorem gone_len (O : Ov) (k : Nat) : (goneT O k).length ≤ k := by
  unfold goneT
  refine Nat.le_trans (List.length_filter_le _ _) ?_
  rw [List.length_map, List.length_take]
  omega
set_option maxHeartbeats 4000000 in
theorem refGone12_any (w : World) (R : Nat → Prop) (p pb b : Nat) (vB vW vF : Value) (O : Ov) (hR : R12 w R p pb b vB vW vF O) (hl : O.was.length ≤ 1000) (hm : ∀ m ∈ O.was, KI m.k) :
    Calls Tryz.prog 45 #[.pointer (some ⟨p, 0, none⟩)] w fun x w' => ∃ u, x = .returned u ∧ Keys w' u (goneL O) ∧ Below w.heap.size w w' := by
  obtain ⟨i0, hi, hz0, hz1, hz2⟩ := info_k
  obtain ⟨aF, lF, cF, eF⟩ : ∃ a l c, vF = .slice a l c := by obtain ⟨a, c, e⟩ := hR.fresh.shape; exact ⟨a, _, c, e⟩
  subst eF
  obtain ⟨aW, cW, eW⟩ := hR.was.shape
  subst eW
  obtain ⟨n, hn⟩ : ∃ n, n = O.was.length := ⟨_, rfl⟩
  rw [← hn] at hR hl
  have HN : Hid (n = O.was.length) := hn
  have HR : Hid (R12 w R p pb b vB (.slice aW n cW) (.slice aF lF cF) O) := hR
  have HM : Hid (∀ m ∈ O.was, KI m.k) := hm
  have HF : Hid (∀ W h q, Below w.heap.size w W → Calls Tryz.prog 36 #[.slice aF lF cF, .agg #[.int .i64 h, .int .i64 q]] W fun e w' => e = .returned (.tuple #[entV (findM O.fresh (h, q)), .bool (findM O.fresh (h, q)).isSome]) ∧ Below W.heap.size W w') := fun W h q hb => refFind11_any W _ _ h q (HR.out.below hb).fresh
  have HKT : Hid (∀ k, ∀ y ∈ goneT O k, KI y) := fun k y hy => by
    have h1 := (List.mem_filter.1 hy).1
    obtain ⟨m, h2, rfl⟩ := List.mem_map.1 h1
    exact HM.out m (List.mem_of_mem_take h2)
  clear hn hm hR
  go_enter Tryz.func45, Tryz.ntmps45
  go_wp2_with fail
  go_loopw [3, 4] (fun v i wr => ∃ k : Nat, i = .int .i64 (k : Nat) ∧ k ≤ n ∧ Hid (wr.ownsRow w.heap.size 32 2 v (goneT O k).length (kcells (goneT O k))) ∧ Hid (Below w.heap.size w wr)) (fun _ i _ => n - (intOf i).toNat)
  case atStart => exact ⟨0, rfl, Nat.zero_le _, World.ownsRow_nil _ _ _ _, Below.refl _ _⟩
  case round =>
    obtain ⟨k, rfl, hk, HRO, HB⟩ := hrel
    have HRV : Hid (R12 wr R p pb b vB (.slice aW n cW) (.slice aF lF cF) O) := HR.out.below HB.out
    have c2 := HRV.out.cells.2.2.1
    by_cases hlt : k < n
    · obtain ⟨gb, off, rfl, hgb, hc⟩ := HRV.out.was.md (by omega)
      obtain ⟨h, q, sx, gx, ux, hkk⟩ := md_at (xs := O.was) (j := k) (by rw [← HN.out]; exact hlt)
      obtain ⟨d0, d1, -, -, -⟩ := hc k _ hkk
      simp only at d0 d1
      have HKI : Hid (KI (h, q)) := HM.out _ (List.mem_of_getElem? hkk)
      have HST : Hid (goneT O (k + 1) = goneT O k ++ (if (findM O.fresh (h, q)).isSome then [] else [(h, q)])) := gone_step hkk
      have HGL : Hid ((goneT O k).length ≤ 1000) := by have := gone_len O k; unfold Hid; omega
      have HF1 : Hid (∀ W, Below wr.heap.size wr W → Calls Tryz.prog 36 #[.slice aF lF cF, .agg #[.int .i64 h, .int .i64 q]] W fun e w' => e = .returned (.tuple #[entV (findM O.fresh (h, q)), .bool (findM O.fresh (h, q)).isSome]) ∧ Below W.heap.size W w') := fun W hb => HF.out W h q (HB.out.trans (hb.mono HB.out.size))
      have HC : Hid (∀ W, Below wr.heap.size wr W → (W.cell? ⟨p, 3, none⟩ = some (.slice aF lF cF) ∧ W.cell? ⟨p, 2, none⟩ = some (.slice (some ⟨gb, off, none⟩) n cW)) ∧ W.cell? ⟨gb, off + k * 5, none⟩ = some (.int .i64 h) ∧ W.cell? ⟨gb, off + k * 5 + 1, none⟩ = some (.int .i64 q)) := fun W hb => ⟨⟨(HRV.out.below hb).cells.2.2.2, (HRV.out.below hb).cells.2.2.1⟩, (hb.cell (p := ⟨gb, off + k * 5, none⟩) hgb).trans d0, (hb.cell (p := ⟨gb, off + k * 5 + 1, none⟩) hgb).trans d1⟩
      obtain ⟨fo, hfo⟩ : ∃ fo, findM O.fresh (h, q) = fo := ⟨_, rfl⟩
      rw [hfo] at HST HF1
      obtain ⟨e0, e1, e2, he⟩ : ∃ e0 e1 e2, entV fo = .agg #[.int .i64 e0, .int .i64 e1, .int .u32 (e2 : Nat)] := ⟨_, _, _, rfl⟩
      rw [he] at HF1
      generalize fo.isSome = okw at HST HF1
      generalize goneT O k = S at *
      obtain ⟨S1, hS1⟩ : ∃ S1, goneT O (k + 1) = S1 := ⟨_, rfl⟩
      rw [hS1] at HST
      have HS1 : Hid (goneT O (k + 1) = S1) := hS1
      clear hS1
      clear hc hgb hkk d0 d1 hfo he HR HF HRV
      generalize wr = V at *
      go_wp2_with fail
      go_region_held3 (fun w' => (w'.cell? ⟨p, 3, none⟩ = some (.slice aF lF cF) ∧ w'.cell? ⟨p, 2, none⟩ = some (.slice (some ⟨gb, off, none⟩) n cW)) ∧ w'.cell? ⟨gb, off + k * 5, none⟩ = some (.int .i64 h) ∧ w'.cell? ⟨gb, off + k * 5 + 1, none⟩ = some (.int .i64 q)) (first | exact HC.out _ ((Below.refl _ _).alloc (Nat.le_refl _) _).drew | exact HC.out _ (Below.refl _ _).drew | exact HC.out _ HB3.out | exact HC.out _ (HB3.out.alloc HB3.out.size _) | exact HC.out _ (((HB3.out.setCell (Nat.le_refl _) _).setCell (Nat.le_refl _) _).setCell (Nat.le_refl _) _)) (first
        | (go_at_call 36; refine (HF1.out _ ((Below.refl _ _).alloc (Nat.le_refl _) _).drew).mono ?_; rintro e w3 ⟨rfl, hb3⟩
           have hge : Below V.heap.size V (V.alloc (.cells #[.int .i64 0, .int .i64 0, .int .u32 0] 37)) := (Below.refl _ _).alloc (Nat.le_refl _) _
           have HB3 : Hid (Below V.heap.size V w3) := hge.trans ((below_undrew hb3).mono hge.size)
           have HZ3 : Hid (w3.heap[V.heap.size]? = some (.cells #[.int .i64 0, .int .i64 0, .int .u32 0] 37 (0, 0))) := (hb3.block V.heap.size (by simp)).trans (heap_alloc_new V _)
           obtain ⟨⟨z0, z1, z2⟩, zf⟩ := cells3' HZ3.out
           have f0 := zf 0
           have f1 := zf 1
           have f2 := zf 2
           clear hb3 hge zf)
        | (go_at_call 36; refine (HF1.out _ (Below.refl _ _).drew).mono ?_; rintro e w3 ⟨rfl, hb3⟩
           have HB3 : Hid (Below V.heap.size V w3) := below_undrew hb3
           clear hb3))
      all_goals first
        | (have HB4 : Hid (Below V.heap.size V (((w3.setCell ⟨V.heap.size, 0, none⟩ (.int .i64 e0)).setCell ⟨V.heap.size, 1, none⟩ (.int .i64 e1)).setCell ⟨V.heap.size, 2, none⟩ (.int .u32 (e2 : Nat)))) := ((HB3.out.setCell (Nat.le_refl _) _).setCell (Nat.le_refl _) _).setCell (Nat.le_refl _) _
           have HZ4 : Hid ((((w3.setCell ⟨V.heap.size, 0, none⟩ (.int .i64 e0)).setCell ⟨V.heap.size, 1, none⟩ (.int .i64 e1)).setCell ⟨V.heap.size, 2, none⟩ (.int .u32 (e2 : Nat))).heap[V.heap.size]? = some (.cells #[.int .i64 e0, .int .i64 e1, .int .u32 (e2 : Nat)] 37 (0, 0))) := (heap_set_row (heap_set_row (heap_set_row HZ3.out 0 _) 1 _) 2 _).trans rfl
           clear z0 z1 z2 f0 f1 f2 HZ3
           generalize hw4 : ((w3.setCell ⟨V.heap.size, 0, none⟩ (.int .i64 e0)).setCell ⟨V.heap.size, 1, none⟩ (.int .i64 e1)).setCell ⟨V.heap.size, 2, none⟩ (.int .u32 (e2 : Nat)) = w4 at *
           clear hw4
           obtain ⟨Zb, hZb⟩ : ∃ Zb, Zb = V.heap.size := ⟨_, rfl⟩
           have HZg : Hid (V.heap.size ≤ Zb) := Nat.le_of_eq hZb.symm
           rw [← hZb] at HZ4
           try rw [← hZb]
           clear hZb)
        | (have HB4 : Hid (Below V.heap.size V (w3.alloc (.cells #[.int .i64 e0, .int .i64 e1, .int .u32 (e2 : Nat)] 37))) := HB3.out.alloc HB3.out.size _
           have HZ4 : Hid ((w3.alloc (.cells #[.int .i64 e0, .int .i64 e1, .int .u32 (e2 : Nat)] 37)).heap[w3.heap.size]? = some (.cells #[.int .i64 e0, .int .i64 e1, .int .u32 (e2 : Nat)] 37 (0, 0))) := heap_alloc_new w3 _
           generalize hw4 : w3.alloc (.cells #[.int .i64 e0, .int .i64 e1, .int .u32 (e2 : Nat)] 37) = w4 at *
           clear hw4
           obtain ⟨Zb, hZb⟩ : ∃ Zb, Zb = w3.heap.size := ⟨_, rfl⟩
           have HZg : Hid (V.heap.size ≤ Zb) := by rw [hZb]; exact HB3.out.size
           rw [← hZb] at HZ4
           try rw [← hZb]
           clear hZb)
      all_goals
        have HBW : Hid (Below w.heap.size w w4) := HB.out.trans (HB4.out.mono HB.out.size)
        have HRO4 : Hid (w4.ownsRow w.heap.size 32 2 u3 S.length (kcells S)) := HRO.out.kept (grown_below HB4.out) (by cases hv : u3.ownBlock <;> simp)
        obtain ⟨⟨x3, x2⟩, x0, x1⟩ := HC.out w4 HB4.out
        clear HZ4 HZg HB4 HRO HF1 HC c2
        cases okw with
        | true =>
          have HE : Hid (S1 = S) := by unfold Hid; rw [HST.out]; simp
          go_wp2
          go_roundw
          case rel => exact ⟨k + 1, by go_num, by omega, by rw [HS1.out, HE.out]; exact HRO4.out, HBW.out⟩
          case measure => simp [intOf]; omega
        | false =>
          have HE : Hid (S ++ [(h, q)] = S1) := by unfold Hid; rw [HST.out]; simp
          have HK1 : Hid (Keys (w4.alloc (.cells #[.int .i64 h, .int .i64 q] 32)) (.slice (some ⟨w4.heap.size, 0, none⟩) 1 1) [(h, q)]) := Keys.one (k := (h, q)) HKI.out
          go_wp2_with (first
            | (at_builtin; refine wpList_append_keys _ rfl _ _ 54 (by rfl) w.heap.size 32 i0 Tryz.underlying54 hi hz0 hz1 hz2 u3 S.length S (by rfl) (HRO4.out.alloc _) (.slice (some ⟨w4.heap.size, 0, none⟩) 1 1) [(h, q)] (by rfl) HK1.out (by have := HGL.out; simp only [List.length_singleton]; omega) (by have := HBW.out.size; simp; omega) ?_; intro v8 w8 hown8 hg8 hat8; have HO8 : Hid (w8.ownsRow w.heap.size 32 2 v8 S1.length (kcells S1)) := (by have h9 := hown8; rw [HE.out] at h9; rw [← HE.out, List.length_append, HE.out]; exact h9); have HB8 : Hid (Below w.heap.size w w8) := (HBW.out.alloc HBW.out.size _).grown hg8 (by have := HBW.out.size; simp; omega) (fun i hi => (HRO4.out.lt i hi).1); clear hown8 hg8 hat8)
            | go_in)
          go_roundw
          case rel => exact ⟨k + 1, by go_num, by omega, by rw [HS1.out]; exact HO8.out, HB8.out⟩
          case measure => simp [intOf]; omega
    · have HKs : Hid (Keys wr u3 (goneL O)) := by
        have h1 := Keys.ofOwn HRO.out (HKT.out k)
        rwa [gone_all O (by rw [← HN.out]; omega)] at h1
      clear HRO HRV
      go_wp2
      go_ret
      exact ⟨_, rfl, HKs.out, HB.out⟩
end Go.Proofs.YtjhkcdnfnmglhaaGreatDoor
