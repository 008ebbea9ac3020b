/- Some texts of mine, one behind the other (joined by program). -/
import Derived.Test.YtjhkcdnfnmglhaaDoorJ6
import Derived.Deep.RegionLaw
import Derived.Deep.CutBlock
import Derived.Test.YtjhkcdnfnmglhaaDoorJ3
import Derived.Test.YtjhkcdnfnmglhaaDoorJ4
import Derived.Test.YtjhkcdnfnmglhaaDoorJ5

/- The document's overlay: Sum. (Written by wip/mk_ref12b.py.) -/
namespace Go.Proofs.YtjhkcdnfnmglhaaDoor
open Go.RowKit
set_option linter.unusedVariables false
set_option maxRecDepth 20000
end Go.Proofs.YtjhkcdnfnmglhaaDoor

/- The document's overlay: Drop. (Written by wip/mk_ref12b.py.) -/
namespace Go.Proofs.YtjhkcdnfnmglhaaDoor
open Go.RowKit
set_option linter.unusedVariables false
set_option maxRecDepth 20000
theorem only_only2 {p b : Nat} {w w' : World} (h : Only b w w') : Only2 p b w w' := Kept.mono h fun k hk => ⟨hk.1, hk.2.2⟩
theorem nums_lit {w : World} {z : Int} (T : TypeId) (hz : I64 z) : Nums (w.alloc (.cells #[.int .i64 z] T)) (.slice (some ⟨w.heap.size, 0, none⟩) 1 1) [z] := Nums.one hz
end Go.Proofs.YtjhkcdnfnmglhaaDoor

/- The document's overlay: Put. (Written by wip/mk_ref12b.py.) -/
namespace Go.Proofs.YtjhkcdnfnmglhaaDoor
open Go.RowKit
set_option linter.unusedVariables false
set_option maxRecDepth 20000

theorem retire_B (O : Ov) (B' : Nat → Bool) (k : Ky) : retireO { O with B := B' } k = { retireO O k with B := B' } := by
  unfold retireO
  cases findM O.base k <;> rfl
theorem Only2.setNew2 {p b : Nat} {a w : World} (h : Only2 p b a w) {q : Addr} (hq : a.heap.size ≤ q.block) (u : Value) : Only2 p b a (w.setCell q u) := Kept.setCell (K := fun i => i < a.heap.size ∧ i ≠ p ∧ i ≠ b) h (fun hk => absurd hk.1 (Nat.not_lt.2 hq)) u
end Go.Proofs.YtjhkcdnfnmglhaaDoor

/- The document's overlay: Commit, over what Slots is to answer. (Written by wip/mk_ref12b.py.) -/
namespace Go.Proofs.YtjhkcdnfnmglhaaDoor
open Go.RowKit
set_option linter.unusedVariables false
set_option maxRecDepth 20000
end Go.Proofs.YtjhkcdnfnmglhaaDoor

/- The document's overlay: New. -/
namespace Go.Proofs.YtjhkcdnfnmglhaaDoor
open Go.RowKit
set_option linter.unusedVariables false
set_option maxRecDepth 20000

/-- The slots of a list, in its order. -/
def slotsOf (l : List Md) : List Int := l.map Md.s
theorem slotsOf_step {l : List Md} {k : Nat} {m : Md} (h : l[k]? = some m) : slotsOf (l.take k) ++ [m.s] = slotsOf (l.take (k + 1)) := by
  unfold slotsOf
  obtain ⟨hk, e⟩ := List.getElem?_eq_some_iff.1 h
  rw [List.take_succ_eq_append_getElem hk, List.map_append, List.map_singleton, e]
/-- What New makes. -/
def newO (n : Nat) (l : List Md) : Ov := ⟨n, takenB (slotsOf l), l, [], []⟩
end Go.Proofs.YtjhkcdnfnmglhaaDoor

/- A right list is an overlay's base. -/
namespace Go.Proofs.YtjhkcdnfnmglhaaDoor
open Go.RowKit
set_option linter.unusedVariables false

theorem right_step {n : Int} {l : List Md} (h : rightM n l = true) {j : Nat} {m : Md} (hj : l[j]? = some m) : okM n m = true ∧ aheadM l j m = true ∧ freshM (l.take j) m = true := by
  unfold rightM at h
  rw [List.all_eq_true] at h
  have hl := (List.getElem?_eq_some_iff.1 hj).1
  have := h j (List.mem_range.2 hl)
  unfold stepM at this
  rw [hj] at this
  simp only [Bool.and_eq_true] at this
  exact ⟨this.1.1, this.1.2, this.2⟩
theorem right_rise {n : Int} {l : List Md} (h : rightM n l = true) : Rise l := by
  unfold Rise
  rw [List.pairwise_map, List.pairwise_iff_getElem]
  intro i j hi hj hij
  induction j with
  | zero => omega
  | succ j ih =>
    have hs : KLt l[j].k l[j + 1].k := by
      have := (right_step h (List.getElem?_eq_getElem hj)).2.1
      unfold aheadM at this
      simp only [List.getElem?_eq_getElem (show j < l.length by omega)] at this
      exact of_decide_eq_true this
    rcases Nat.lt_or_ge i j with hl | hl
    · exact (ih (by omega) hl).trans hs
    · have e : i = j := by omega
      subst e
      exact hs
theorem right_good {n : Nat} {l : List Md} (h : rightM (n : Int) l = true) : Good n (slotsOf l) := by
  constructor
  · unfold slotsOf
    rw [List.nodup_iff_pairwise_ne, List.pairwise_map, List.pairwise_iff_getElem]
    intro i j hi hj hij
    have := (right_step h (List.getElem?_eq_getElem hj)).2.2
    unfold freshM at this
    rw [List.all_eq_true] at this
    have hm : l[i] ∈ l.take j := List.mem_take_iff_getElem.2 ⟨i, by omega, rfl⟩
    simpa using this _ hm
  · intro z hz
    obtain ⟨m, hm, rfl⟩ := List.mem_map.1 hz
    obtain ⟨j, hj⟩ := List.getElem?_of_mem hm
    have := (right_step h hj).1
    unfold okM at this
    simp only [Bool.and_eq_true, decide_eq_true_eq] at this
    exact ⟨this.2.1, this.2.2.1⟩
theorem new_has {n : Nat} {l : List Md} {c : Nat} {k : Ky} {e : Ent} (h : (newO n l).Has c k e) : c = 0 ∧ findM l k = some e := by
  obtain ⟨hc, h⟩ := h
  match c, hc, h with
  | 0, hc, h => exact ⟨rfl, h⟩
  | 1, hc, h => cases h
  | 2, hc, h => cases h
theorem right_ok {n : Nat} {l : List Md} (h : rightM (n : Int) l = true) (hn1 : 1 ≤ n) (hn : n ≤ 65536) (hu : ∀ m ∈ l, m.u < 4294967296) : OvOk (newO n l) 281474976710655 where
  n1 := hn1
  n2 := hn
  rb := right_rise h
  rw := Rise.nil
  rf := Rise.nil
  tail := fun i hi => by
    show (slotsOf l).contains (i : Int) = false
    rw [List.contains_eq_mem, decide_eq_false_iff_not]
    intro hm
    have hi' : n ≤ i := hi
    have := ((right_good h).2 _ hm).2
    omega
  one := fun c k e c' k' e' h1 h2 he => by
    obtain ⟨rfl, g1⟩ := new_has h1
    obtain ⟨rfl, g2⟩ := new_has h2
    refine ⟨rfl, ?_⟩
    have hnd : (l.map Md.s).Nodup := (right_good h).1
    have m1 := find_mem g1
    have m2 := find_mem g2
    obtain ⟨i, hi⟩ := List.getElem?_of_mem m1
    obtain ⟨j, hj⟩ := List.getElem?_of_mem m2
    have hi2 := (List.getElem?_eq_some_iff.1 hi)
    have hj2 := (List.getElem?_eq_some_iff.1 hj)
    have e1 : (l.map Md.s)[i]? = (l.map Md.s)[j]? := by rw [List.getElem?_map, List.getElem?_map, hi, hj]; exact congrArg some he
    have hij : i = j := (List.getElem?_inj (by simpa using hi2.1) hnd).1 e1
    subst hij
    rw [hi] at hj
    simp only [Option.some.injEq, md, Md.mk.injEq] at hj
    exact Prod.ext hj.1 hj.2.1
  taken := fun i => by
    show (slotsOf l).contains (i : Int) = true ↔ _
    rw [List.contains_eq_mem, decide_eq_true_eq]
    constructor
    · intro hm
      obtain ⟨m, hm, e⟩ := List.mem_map.1 hm
      exact ⟨0, m.k, (m.s, m.g, m.u), ⟨by decide, mem_find (right_rise h).nodup hm⟩, e⟩
    · rintro ⟨c, k, e, hh, he⟩
      exact List.mem_map.2 ⟨_, find_mem (new_has hh).2, he⟩
  range := fun c k e hh => by
    have hm : e.1 ∈ slotsOf l := List.mem_map.2 ⟨_, find_mem (new_has hh).2, rfl⟩
    have := (right_good h).2 _ hm
    exact ⟨e.1.toNat, by omega, by show e.1.toNat < n; omega⟩
  apart := fun k e _ => ⟨rfl, rfl⟩
  fit := fun c k e hh => by
    have hm := find_mem (new_has hh).2
    obtain ⟨j, hj⟩ := List.getElem?_of_mem hm
    have := (right_step h hj).1
    unfold okM at this
    simp only [Bool.and_eq_true, decide_eq_true_eq] at this
    exact ⟨this.1, this.2.2.2.1, this.2.2.2.2, hu _ hm⟩
end Go.Proofs.YtjhkcdnfnmglhaaDoor

/- Contract of overlay.New. -/
namespace Go.Proofs.YtjhkcdnfnmglhaaDoor
open Go.RowKit Go.Maps
set_option linter.unusedVariables false
set_option maxRecDepth 20000

theorem slots_alike {l : List Md} {y : Int} : y ∈ slotsL l ↔ y ∈ slotsOf l := by
  rw [slots_mem]
  simp [slotsOf]
theorem taken_alike (l : List Md) : takenB (slotsL l) = takenB (slotsOf l) := by
  funext i
  unfold takenB
  rw [Bool.eq_iff_iff, List.contains_iff_mem, List.contains_iff_mem, slots_alike]
theorem good_alike {n : Nat} {l : List Md} (h : Good n (slotsOf l)) : Good n (slotsL l) :=
  ⟨slots_nodup h.1, fun z hz => h.2 z (slots_alike.1 hz)⟩
theorem layL_all {l : List Md} (h : Rise l) : layL [] l = l :=
  rise_ext (layL_rise Rise.nil l) h fun k => by
    rw [layL_find h.nodup]
    cases findM l k <;> rfl
theorem layL_take {l : List Md} {k : Nat} {m : Md} (h : l[k]? = some m) : layL [] (l.take (k + 1)) = putL (layL [] (l.take k)) m.k (m.s, m.g, m.u) := by
  rw [take_snocA h, ← layL_snoc, md_self]
/-- All blocks that a call on it may turn are new. -/
def OvNewB (s : OvB) (b : Nat) : Prop := b ≤ s.b ∧ b ≤ s.f ∧ b ≤ s.X ∧ b ≤ s.Y ∧ b ≤ s.Z
def NewOv (w : World) (n : Int) (l : List Md) (x : Ending) (w' : World) : Prop :=
  Below w.heap.size w w' ∧ ((1 ≤ n ∧ n ≤ 65536 ∧ rightM n l = true ∧ ∃ q s, x = .returned (.tuple #[.pointer (some ⟨q, 0, none⟩), .int .i64 0]) ∧ OvAt w' q s (newO n.toNat l) ∧ OvNewB s w.heap.size ∧ w.heap.size ≤ q) ∨
    (¬ (1 ≤ n ∧ n ≤ 65536 ∧ rightM n l = true) ∧ x = .returned (.tuple #[.pointer none, .int .i64 2])))
theorem new3 (W : World) (o1 o2 o3 : Obj) : (((W.alloc o1).alloc o2).alloc o3).heap[W.heap.size]? = some o1 ∧ (((W.alloc o1).alloc o2).alloc o3).heap[W.heap.size + 1]? = some o2 ∧ (((W.alloc o1).alloc o2).alloc o3).heap[W.heap.size + 2]? = some o3 := by
  have s1 : (W.alloc o1).heap.size = W.heap.size + 1 := by simp
  have s2 : ((W.alloc o1).alloc o2).heap.size = W.heap.size + 2 := by simp
  have b2 : Below (W.alloc o1).heap.size (W.alloc o1) ((W.alloc o1).alloc o2) := (Below.refl _ _).alloc (Nat.le_refl _) _
  have b3 : Below ((W.alloc o1).alloc o2).heap.size ((W.alloc o1).alloc o2) (((W.alloc o1).alloc o2).alloc o3) := (Below.refl _ _).alloc (Nat.le_refl _) _
  have h1 := heap_alloc_new W o1
  have h2 := heap_alloc_new (W.alloc o1) o2
  have h3 := heap_alloc_new ((W.alloc o1).alloc o2) o3
  rw [s1] at h2
  rw [s2] at h3
  exact ⟨(b3.block _ (by omega)).trans ((b2.block _ (by omega)).trans h1), (b3.block _ (by omega)).trans h2, h3⟩
theorem map_empty {w : World} {b : Nat} (h : w.heap[b]? = some (.map #[] 0)) : MapL w b [] :=
  ⟨_, ⟨#[], 0, h, ⟨by simp, Go.MapKept.stamped_empty 0, by simp⟩, Nat.le_refl _, rfl⟩, EntL.nil⟩
set_option maxHeartbeats 4000000 in
theorem new12_any (w : World) (n : Int) (v : Value) (l : List Md) (hv : Els encM 5 w v l) (hl : l.length ≤ 490) (hm : ∀ m ∈ l, MdI m) (ht : Steps w) (hn64 : I64 n) :
    Calls Tryd.prog 6 #[.int .i64 n, v] w fun x w' => NewOv w n l x w' := by
  obtain ⟨a, ca, rfl⟩ := hv.shape
  obtain ⟨L, hL⟩ : ∃ L, L = l.length := ⟨_, rfl⟩
  have HRI : Hid (Calls Tryd.prog 14 #[.int .i64 n, .slice a l.length ca] w fun e w' => e = .returned (.bool (rightM n l)) ∧ Below w.heap.size w w') := right11_any w _ l n hv hm (by omega)
  rw [← hL] at hv hl HRI ⊢
  have HL : Hid (L = l.length) := hL
  have HV : Hid (Els encM 5 w (.slice a L ca) l) := hv
  have HM : Hid (∀ m ∈ l, MdI m) := hm
  have HT : Hid (Steps w) := ht
  have HNI : Hid (I64 n) := hn64
  clear hL hv hm ht hn64
  rcases hr : rightM n l with _ | _
  · rw [hr] at HRI
    have HNO : Hid (¬ (1 ≤ n ∧ n ≤ 65536 ∧ rightM n l = true)) := fun h => by rw [hr] at h; exact absurd h.2.2 (by simp)
    clear hr
    go_enter Tryd.func6, Tryd.ntmps6
    go_wp2_with fail
    refine HRI.out.mono ?_
    rintro e w1 ⟨rfl, hb⟩
    have HB : Hid (Below w.heap.size w w1) := hb
    clear hb
    go_wp2
    refine bodyPost_ret (results_tmp2 rfl _ _ _) rfl ?_
    exact ⟨HB.out, .inr ⟨HNO.out, rfl⟩⟩
  · rw [hr] at HRI
    have HR : Hid (rightM n l = true) := hr
    have HRS : Hid (Rise l) := right_rise hr
    have hmm := @run_makeMap Tryd.prog
    clear hr
    go_enter Tryd.func6, Tryd.ntmps6
    go_wp2_with fail
    refine HRI.out.mono ?_
    rintro e w1 ⟨rfl, hb1⟩
    have HB1 : Hid (Below w.heap.size w w1) := hb1
    have HM0 : Hid (MapL (w1.alloc (.map #[] 0)) w1.heap.size (layL [] (l.take 0))) := MapL.made w1
    have HB2 : Hid (Below w.heap.size w (w1.alloc (.map #[] 0))) := hb1.alloc hb1.size _
    have HXL : Hid (w.heap.size ≤ w1.heap.size) := hb1.size
    clear hb1 HRI
    go_wp2_with fail
    generalize w1.heap.size = X at *
    generalize w1.alloc (.map #[] 0) = w2 at *
    go_loopw [18] (fun i wr => ∃ k : Nat, i = .int .i64 (k : Nat) ∧ k ≤ L ∧ Hid (MapL wr X (layL [] (l.take k))) ∧ Hid (Below w.heap.size w wr)) (fun i _ => L - (intOf i).toNat)
    case atStart => exact ⟨0, rfl, Nat.zero_le _, HM0.out, HB2.out⟩
    case round =>
      obtain ⟨k, rfl, hk, HMk, HB⟩ := hrel
      by_cases hlt : k < L
      · obtain ⟨b, off, rfl, hb, hc⟩ := (HV.out.kept HB.out).md (by omega)
        obtain ⟨mh, mp, ms, mg, mu, hkk⟩ := md_at (xs := l) (j := k) (by rw [← HL.out]; exact hlt)
        obtain ⟨c0, c1, c2, c3, c4⟩ := hc k _ hkk
        have HF : Hid (layL [] (l.take (k + 1)) = putL (layL [] (l.take k)) (mh, mp) (ms, mg, mu)) := layL_take hkk
        have HKI : Hid (KI (mh, mp)) := ⟨(HM.out _ (List.mem_of_getElem? hkk)).1, (HM.out _ (List.mem_of_getElem? hkk)).2.1⟩
        clear hc hb hkk
        have hW : Below wr.heap.size wr (wr.alloc (.cells #[.int .i64 mh, .int .i64 mp, .int .i64 ms, .int .i64 mg, .int .u32 (mu : Nat)] 47)) := (Below.refl _ _).alloc (Nat.le_refl _) _
        obtain ⟨d0, d1, d2, d3, d4⟩ := new_five wr (.int .i64 mh) (.int .i64 mp) (.int .i64 ms) (.int .i64 mg) (.int .u32 (mu : Nat)) 47
        obtain ⟨w3, hup, hm2, hg2⟩ := (HMk.out.kept hW).put (by have h1 := layL_len Rise.nil (l.take k); rw [List.length_take] at h1; simp at h1; omega) HKI.out (ms, mg, mu)
        have HB3 : Hid (Below w.heap.size w w3) := (HB.out.trans (hW.mono HB.out.size)).grown hg2 (by have := HB.out.size; have := hW.size; omega) (fun j hj => by cases hj; exact HXL.out)
        have HM3 : Hid (MapL w3 X (layL [] (l.take (k + 1)))) := by rw [HF.out]; exact hm2
        simp only at hup
        clear hm2 hg2 hW HF HKI HMk HB
        go_wp2_with fail
        go_roundw
        case rel => exact ⟨k + 1, by go_num, by omega, HM3.out, HB3.out⟩
        case measure => simp [intOf]; omega
      · have hkL : k = L := by omega
        have HMX : Hid (MapL wr X l) := by
          have := HMk.out
          rw [hkL, List.take_of_length_le (by rw [HL.out]; exact Nat.le_refl _), layL_all HRS.out] at this
          exact this
        have HPL := places12_any wr X l HMX.out (by rw [← HL.out]; omega) (fun m hm => (HM.out m hm).2.2.1)
        clear HMk HM0 HB2 hkL hk
        go_wp2_with fail
        clear hlt
        refine HPL.mono ?_
        rintro e w4 ⟨u, rfl, hn4, hb4, -⟩
        have HN4 : Hid (Nums w4 u (slotsL l)) := hn4
        have HB4 : Hid (Below w.heap.size w w4) := HB.out.trans (hb4.mono HB.out.size)
        have HM4 : Hid (MapL w4 X l) := HMX.out.kept hb4
        have HT4 : Hid (Steps w4) := HT.out.below HB4.out
        clear hn4 hb4 HPL
        by_cases hin : 1 ≤ n ∧ n ≤ 65536
        · obtain ⟨N, rfl⟩ : ∃ N : Nat, n = (N : Int) := ⟨n.toNat, by rw [Int.toNat_of_nonneg]; omega⟩
          have hN1 : 1 ≤ N := by omega
          have hN2 : N ≤ 65536 := by omega
          have HGD : Hid (Good N (slotsL l)) := good_alike (right_good HR.out)
          have HNB := newB_any w4 N u (slotsL l) hN1 hN2 HT4.out HN4.out
          have HIN : Hid ((1 : Int) ≤ (N : Int) ∧ (N : Int) ≤ 65536) := hin
          clear hin
          go_wp2_with fail
          refine HNB.mono ?_
          rintro e w5 ⟨hb5, ⟨-, qb, pb, b, f, cap, rfl, hb6, hf6, hbo⟩ | ⟨hno, -⟩⟩
          · have HB5 : Hid (Below w.heap.size w w5) := HB4.out.trans (hb5.mono HB4.out.size)
            have HM5 : Hid (MapL w5 X l) := HM4.out.kept hb5
            have HBO : Hid (BoardAt w5 qb pb b f cap N (takenB (slotsOf l))) := by rw [← taken_alike]; exact hbo
            have HBF : Hid (w.heap.size ≤ b ∧ w.heap.size ≤ f) := ⟨Nat.le_trans HB4.out.size hb6, Nat.le_trans HB4.out.size hf6⟩
            have HW0 : Hid (0 < w.heap.size) := HT.out.pos
            clear hb5 hb6 hf6 hbo HNB
            have HE : Hid (OvAt (((w5.alloc (.map #[] 0)).alloc (.map #[] 0)).alloc (.cells #[.pointer (some ⟨qb, 0, none⟩), .map (some X), .map (some w5.heap.size), .map (some (w5.heap.size + 1))] 58)) (w5.heap.size + 2) ⟨qb, pb, b, f, cap, X, w5.heap.size, w5.heap.size + 1⟩ (newO N l)) := by
              have hb7 : Below w5.heap.size w5 (((w5.alloc (.map #[] 0)).alloc (.map #[] 0)).alloc (.cells #[.pointer (some ⟨qb, 0, none⟩), .map (some X), .map (some w5.heap.size), .map (some (w5.heap.size + 1))] 58)) := (((Below.refl _ _).alloc (Nat.le_refl _) _).alloc (by simp) _).alloc (by simp; omega) _
              obtain ⟨x1, x2, x3⟩ := new3 w5 (.map #[] 0) (.map #[] 0) (.cells #[.pointer (some ⟨qb, 0, none⟩), .map (some X), .map (some w5.heap.size), .map (some (w5.heap.size + 1))] 58)
              have hXl := HM5.out.lt
              refine ⟨x3, HBO.out.below hb7, HM5.out.kept hb7, map_empty x1, map_empty x2, ⟨?_, ?_, ?_⟩, ?_, ?_⟩
              · show X ≠ w5.heap.size; omega
              · show X ≠ w5.heap.size + 1; omega
              · show w5.heap.size ≠ w5.heap.size + 1; omega
              · show 0 < b; have := HBF.out; have := HW0.out; omega
              · show 0 < f; have := HBF.out; have := HW0.out; omega
            have HBE : Hid (Below w.heap.size w (((w5.alloc (.map #[] 0)).alloc (.map #[] 0)).alloc (.cells #[.pointer (some ⟨qb, 0, none⟩), .map (some X), .map (some w5.heap.size), .map (some (w5.heap.size + 1))] 58))) := ((HB5.out.alloc HB5.out.size _).alloc (by have := HB5.out.size; simp; omega) _).alloc (by have := HB5.out.size; simp; omega) _
            go_wp2
            refine bodyPost_ret (results_tmp2 rfl _ _ _) rfl ?_
            refine ⟨HBE.out, .inl ⟨HIN.out.1, HIN.out.2, HR.out, w5.heap.size + 2, ⟨qb, pb, b, f, cap, X, w5.heap.size, w5.heap.size + 1⟩, rfl, HE.out, ?_, ?_⟩⟩
            · have := HB5.out.size
              exact ⟨HBF.out.1, HBF.out.2, HXL.out, this, Nat.le_succ_of_le this⟩
            · have := HB5.out.size
              omega
          · exact absurd HGD.out hno
        · have HNB := newB_off w4 n u HNI.out.1 HNI.out.2 HT4.out.pos (by omega)
          have HNO : Hid (¬ (1 ≤ n ∧ n ≤ 65536 ∧ rightM n l = true)) := fun h => hin ⟨h.1, h.2.1⟩
          clear hin
          go_wp2_with fail
          refine HNB.mono ?_
          rintro e w5 ⟨rfl, hb5⟩
          have HB5 : Hid (Below w.heap.size w w5) := HB4.out.trans (hb5.mono HB4.out.size)
          clear hb5
          go_wp2
          refine bodyPost_ret (results_tmp2 rfl _ _ _) rfl ?_
          exact ⟨HB5.out, .inr ⟨HNO.out, rfl⟩⟩
end Go.Proofs.YtjhkcdnfnmglhaaDoor

/- An overlay in plain lists: how many slots are taken; the document's example. -/
namespace Go.Proofs.YtjhkcdnfnmglhaaDoor
open Go.RowKit
set_option linter.unusedVariables false
set_option maxRecDepth 20000

def allS (O : Ov) : List Int := slotsL O.base ++ slotsL O.fresh ++ slotsL O.was
def totalO (O : Ov) : Nat := O.base.length + O.was.length + O.fresh.length
theorem all_len (O : Ov) : (allS O).length = totalO O := by
  unfold allS totalO
  rw [List.length_append, List.length_append, slots_len, slots_len, slots_len]
  omega
theorem in_has {O : Ov} {t : Int} (h : OvOk O t) {c : Nat} (hc : c < 3) (hr : Rise (O.part c)) {m : Md} (hm : m ∈ O.part c) : O.Has c m.k (m.s, m.g, m.u) := ⟨hc, mem_find hr.nodup hm⟩
theorem apart_slots {O : Ov} {t : Int} (h : OvOk O t) {c d : Nat} (hc : c < 3) (hd : d < 3) (hcd : c ≠ d) (hrc : Rise (O.part c)) (hrd : Rise (O.part d)) {y : Int} (hy : y ∈ slotsL (O.part c)) (hz : y ∈ slotsL (O.part d)) : False := by
  obtain ⟨m, hm, e1⟩ := slots_mem.1 hy
  obtain ⟨m', hm', e2⟩ := slots_mem.1 hz
  exact hcd (h.one _ _ _ _ _ _ (in_has h hc hrc hm) (in_has h hd hrd hm') (e1.trans e2.symm)).1
theorem all_good {O : Ov} {t : Int} (h : OvOk O t) : GoodG O.n O.B (allS O) := by
  refine ⟨?_, fun z hz => ?_⟩
  · unfold allS
    rw [List.nodup_append, List.nodup_append]
    refine ⟨⟨slots_nodup (part_slots h (c := 0) (by decide) h.rb), slots_nodup (part_slots h (c := 2) (by decide) h.rf), fun a ha b hb e => ?_⟩, slots_nodup (part_slots h (c := 1) (by decide) h.rw), fun a ha b hb e => ?_⟩
    · subst e
      exact apart_slots h (c := 0) (d := 2) (by decide) (by decide) (by decide) h.rb h.rf ha hb
    · subst e
      rcases List.mem_append.1 ha with ha | ha
      · exact apart_slots h (c := 0) (d := 1) (by decide) (by decide) (by decide) h.rb h.rw ha hb
      · exact apart_slots h (c := 2) (d := 1) (by decide) (by decide) (by decide) h.rf h.rw ha hb
  · have key : ∃ c m, c < 3 ∧ Rise (O.part c) ∧ m ∈ O.part c ∧ m.s = z := by
      unfold allS at hz
      rw [List.mem_append, List.mem_append] at hz
      rcases hz with (hz | hz) | hz <;> obtain ⟨m, hm, e⟩ := slots_mem.1 hz
      · exact ⟨0, m, by decide, h.rb, hm, e⟩
      · exact ⟨2, m, by decide, h.rf, hm, e⟩
      · exact ⟨1, m, by decide, h.rw, hm, e⟩
    obtain ⟨c, m, hc, hr, hm, rfl⟩ := key
    have h0 := in_has h hc hr hm
    obtain ⟨s, hs, hn⟩ := h.range _ _ _ h0
    exact ⟨s, hs, hn, (h.taken s).2 ⟨c, m.k, _, h0, hs⟩⟩
theorem all_taken {O : Ov} {t : Int} (h : OvOk O t) {i : Nat} (hi : O.B i = true) : (i : Int) ∈ allS O := by
  obtain ⟨c, k, e, ⟨hc, h0⟩, hs⟩ := (h.taken i).1 hi
  have hm := find_mem h0
  unfold allS
  rw [List.mem_append, List.mem_append]
  have hin : (i : Int) ∈ slotsL (O.part c) := slots_mem.2 ⟨_, hm, hs⟩
  match c, hc, hin with
  | 0, _, hin => exact .inl (.inl hin)
  | 1, _, hin => exact .inr hin
  | 2, _, hin => exact .inl (.inr hin)
theorem cnt_all12 {O : Ov} {t : Int} (h : OvOk O t) : cnt O.B 0 O.n = totalO O := by
  have h1 := cnt_give (all_good h) (allS O).length (Nat.le_refl _)
  rw [List.take_length] at h1
  rw [← h1, cnt_none, Nat.zero_add, all_len]
  intro i hi
  rw [Nat.zero_add]
  cases hg : giveB O.B (allS O) i with
  | false => rfl
  | true =>
    obtain ⟨a, b⟩ := giveB_at hg
    exact absurd (all_taken h a) b
theorem total_le {O : Ov} {t : Int} (h : OvOk O t) : totalO O ≤ O.n := by rw [← cnt_all12 h]; exact cnt_le _ _ _
theorem small_n {O : Ov} {t : Int} (h : OvOk O t) {N : Nat} (hn : totalO O ≤ N) : O.base.length ≤ N ∧ O.was.length ≤ N ∧ O.fresh.length ≤ N := by
  unfold totalO at hn
  omega
theorem part_i64 {O : Ov} {t : Int} (h : OvOk O t) {c : Nat} (hc : c < 3) (hr : Rise (O.part c)) : ∀ m ∈ O.part c, I64 m.s := fun m hm => by
  obtain ⟨s, hs, hn⟩ := h.range _ _ _ (in_has h hc hr hm)
  have := h.n2
  have hs' : m.s = (s : Int) := hs
  unfold I64
  omega

/-! ### How the lists grow -/
theorem total_retire {O : Ov} {t : Int} (h : OvOk O t) (k : Ky) : totalO (retireO O k) ≤ totalO O := by
  cases hf : findM O.base k with
  | none => rw [retire_none hf]; exact Nat.le_refl _
  | some e =>
    rw [retire_some hf]
    have h1 := len_put h.rw k e
    have h2 := len_cut h.rb k
    rw [(h.apart k e hf).1] at h1
    rw [hf] at h2
    simp at h1 h2
    show (cutL O.base k).length + (putL O.was k e).length + O.fresh.length ≤ O.base.length + O.was.length + O.fresh.length
    omega
theorem total_put {O O' : Ov} {t : Int} {k : Ky} {x : Ent} {err : Int} (h : OvOk O t) (hp : PutRel O k O' x err) : totalO O' ≤ totalO O + 1 := by
  rcases hp with ⟨_, rfl, _, _⟩ | ⟨_, e, he, rfl, _, _⟩ | ⟨_, _, _, rfl, _, _⟩ | ⟨_, hf, s, _, rfl, _, _⟩
  · omega
  · have h1 := len_put h.rf k (e.1, e.2.1 + 1, 0)
    rw [he] at h1
    simp at h1
    show O.base.length + O.was.length + (putL O.fresh k (e.1, e.2.1 + 1, 0)).length ≤ O.base.length + O.was.length + O.fresh.length + 1
    omega
  · omega
  · have h0 := total_retire h k
    have hr : (retireO O k).fresh = O.fresh := retire_fresh O k
    have h1 := len_put h.rf k ((s : Int), genO O k + 1, 0)
    rw [hf] at h1
    simp at h1
    show (retireO O k).base.length + (retireO O k).was.length + (putL (retireO O k).fresh k ((s : Int), genO O k + 1, 0)).length ≤ _
    unfold totalO at h0 ⊢
    rw [hr] at h0 ⊢
    omega
theorem total_sum {O : Ov} {t : Int} (h : OvOk O t) (k : Ky) (u : Nat) : totalO (sumO O k u).1 ≤ totalO O := by
  unfold sumO
  cases hf : findM O.fresh k with
  | none => exact Nat.le_refl _
  | some e =>
    have h1 := len_put h.rf k (e.1, e.2.1, u)
    rw [hf] at h1
    simp at h1
    show O.base.length + O.was.length + (putL O.fresh k (e.1, e.2.1, u)).length ≤ O.base.length + O.was.length + O.fresh.length
    omega
theorem total_drop {O : Ov} {t : Int} (h : OvOk O t) (k : Ky) : totalO (dropO O k).1 ≤ totalO O := by
  unfold dropO
  cases hf : findM O.fresh k with
  | none => exact total_retire h k
  | some e =>
    have h0 := total_retire (cutF_ok h hf) k
    have h2 := len_cut h.rf k
    refine Nat.le_trans h0 ?_
    show O.base.length + O.was.length + (cutL O.fresh k).length ≤ O.base.length + O.was.length + O.fresh.length
    omega
theorem total_commit {O : Ov} {t : Int} (h : OvOk O t) : totalO (commitO O) ≤ totalO O := by
  have hn := commit_ok12 h
  have h1 := cnt_all12 hn
  have hle : totalO (commitO O) = (applyM O.base O.fresh []).length := by unfold totalO commitO; simp
  have h2 : (applyM O.base O.fresh []).length ≤ O.base.length + O.fresh.length := by
    have h3 : ((applyM O.base O.fresh []).map Md.k).length = (sortR (keysA O.base O.fresh [])).length := by rw [keys_apply]
    rw [List.length_map] at h3
    rw [h3]
    refine Nat.le_trans (sortR_len _) ?_
    unfold keysA
    rw [List.length_append, List.length_map]
    have : (stayK O.base []).length ≤ O.base.length := by
      unfold stayK
      exact Nat.le_trans (List.length_filter_le _ _) (by rw [List.length_map]; exact Nat.le_refl _)
    omega
  rw [hle]
  unfold totalO
  omega

/-! ### The document's example -/
theorem newO_ok {n : Nat} (h1 : 1 ≤ n) (h2 : n ≤ 65536) : OvOk (newO n []) 281474976710655 := right_ok rfl h1 h2 (by simp)
theorem ex_one {B : Nat → Bool} {s t : Nat} (hB : ∀ i, 4 ≤ i → B i = false) (h : IsTake B 4 s) (ht : t < 4) (hf : B t = false) (hb : ∀ i, i < t → B i = true) : s = t := by
  have h4 := h.lt
  rcases Nat.lt_trichotomy s t with h1 | h1 | h1
  · have h5 := hb s h1
    rw [h.free] at h5
    cases h5
  · exact h1
  · have h5 := h.first t (by omega) h1
    rw [hf] at h5
    cases h5
theorem ex12 {O1 : Ov} {x1 : Ent} {e1 : Int} (h1 : PutRel (newO 4 []) (1, 0) O1 x1 e1) : x1 = (0, 1, 0) ∧ e1 = 0 ∧ ∀ O2 x2 e2, PutRel (commitO O1) (1, 0) O2 x2 e2 → x2 = (1, 2, 0) ∧ totalO O2 = 2 ∧ O2.base.length = 0 ∧ O2.fresh.length = 1 ∧ O2.was.length = 1 ∧ ∀ O3 x3 e3, PutRel O2 (1, 0) O3 x3 e3 → x3 = (1, 3, 0) := by
  have hr : isR (1, 0) = true := by decide
  rcases h1 with ⟨a, _⟩ | ⟨_, e, a, _⟩ | ⟨_, _, a, _⟩ | ⟨_, _, s, hs, rfl, rfl, rfl⟩
  · rw [hr] at a; cases a
  · cases a
  · have := a 0 (by decide); cases this
  have es : s = 0 := ex_one (fun i hi => rfl) hs (by decide) rfl (fun i hi => absurd hi (by omega))
  subst es
  have hg : genO (newO 4 []) (1, 0) = 0 := rfl
  refine ⟨by rw [hg]; rfl, rfl, ?_⟩
  rw [hg]
  intro O2 x2 e2 h2
  have hnone : ∀ x : Ky, findM (newO 4 []).fresh x = none := fun _ => rfl
  have hfr : (commitO (addF (retireO (newO 4 []) (1, 0)) (1, 0) 0 (0 + 1) 0)).fresh = [] := rfl
  have hB0 : (commitO (addF (retireO (newO 4 []) (1, 0)) (1, 0) 0 (0 + 1) 0)).B 0 = true := by decide
  have hB1 : (commitO (addF (retireO (newO 4 []) (1, 0)) (1, 0) 0 (0 + 1) 0)).B 1 = false := by decide
  have hBt : ∀ i, 4 ≤ i → (commitO (addF (retireO (newO 4 []) (1, 0)) (1, 0) 0 (0 + 1) 0)).B i = false := fun i hi => by
    show (putB (takenB []) 0 1 true i && !List.contains (slotsL []) (i : Int)) = false
    have : putB (takenB []) 0 1 true i = false := by unfold putB; rw [if_neg (by omega)]; rfl
    rw [this]; rfl
  have hbase : findM (commitO (addF (retireO (newO 4 []) (1, 0)) (1, 0) 0 (0 + 1) 0)).base (1, 0) = some (0, 1, 0) := by decide
  have hblen : (commitO (addF (retireO (newO 4 []) (1, 0)) (1, 0) 0 (0 + 1) 0)).base.length = 1 := by decide
  have hbr : Rise (commitO (addF (retireO (newO 4 []) (1, 0)) (1, 0) 0 (0 + 1) 0)).base := rise_apply _ _ _
  have hwas : (commitO (addF (retireO (newO 4 []) (1, 0)) (1, 0) 0 (0 + 1) 0)).was = [] := rfl
  have hn : (commitO (addF (retireO (newO 4 []) (1, 0)) (1, 0) 0 (0 + 1) 0)).n = 4 := rfl
  generalize commitO (addF (retireO (newO 4 []) (1, 0)) (1, 0) 0 (0 + 1) 0) = C at *
  rcases h2 with ⟨a, _⟩ | ⟨_, e, a, _⟩ | ⟨_, _, a, _⟩ | ⟨_, _, s, hs, rfl, rfl, rfl⟩
  · rw [hr] at a; cases a
  · rw [hfr] at a; cases a
  · have := a 1 (by rw [hn]; decide); rw [hB1] at this; cases this
  rw [hn] at hs
  have es : s = 1 := ex_one hBt hs (by decide) hB1 (fun i hi => by rw [show i = 0 by omega]; exact hB0)
  subst es
  have hg2 : genO C (1, 0) = 1 := by
    unfold genO
    rw [retire_was, if_pos rfl, hbase]
    rfl
  rw [hg2]
  have hb2 : (retireO C (1, 0)).base.length = 0 := by
    rw [retire_some hbase]
    have := len_cut hbr (1, 0)
    rw [hbase, hblen] at this
    simp at this
    simp [this]
  have hw2 : (retireO C (1, 0)).was.length = 1 := by
    rw [retire_some hbase]
    show (putL C.was (1, 0) (0, 1, 0)).length = 1
    rw [hwas, len_put Rise.nil]
    rfl
  have hf2 : (putL (retireO C (1, 0)).fresh (1, 0) (((1 : Nat) : Int), 1 + 1, 0)).length = 1 := by
    rw [retire_fresh, hfr, len_put Rise.nil]
    rfl
  refine ⟨rfl, ?_, hb2, hf2, hw2, ?_⟩
  · show (retireO C (1, 0)).base.length + (retireO C (1, 0)).was.length + (putL (retireO C (1, 0)).fresh (1, 0) (((1 : Nat) : Int), 1 + 1, 0)).length = 2
    rw [hb2, hw2, hf2]
  · intro O3 x3 e3 h3
    have hff : findM (addF (retireO C (1, 0)) (1, 0) 1 (1 + 1) 0).fresh (1, 0) = some (((1 : Nat) : Int), 1 + 1, 0) := by
      show findM (putL (retireO C (1, 0)).fresh (1, 0) _) (1, 0) = _
      rw [find_put, if_pos rfl]
    rcases h3 with ⟨a, _⟩ | ⟨_, e, a, _, rfl, _⟩ | ⟨_, a, _⟩ | ⟨_, a, _⟩
    · rw [hr] at a; cases a
    · rw [hff, Option.some.injEq] at a
      rw [← a]
      rfl
    · rw [hff] at a; cases a
    · rw [hff] at a; cases a
end Go.Proofs.YtjhkcdnfnmglhaaDoor

/- The laws' first lines of layer 12 ('awake'): the document's example. -/
namespace Go.Proofs.YtjhkcdnfnmglhaaDoor
open Go.RowKit
set_option linter.unusedVariables false
set_option maxRecDepth 20000

theorem OvStep.belowNew {s : OvB} {w w' : World} {B : Nat} (h : OvStep s w w') (hs : OvNewB s B) (hB : B ≤ w.heap.size) : Below B w w' :=
  Kept.below h fun k hk => by obtain ⟨a, b, c, d, e⟩ := hs; exact ⟨by omega, by omega, by omega, by omega, by omega, by omega⟩
theorem OvStep.cellsKept {s : OvB} {w w' : World} {q : Nat} {O : Ov} (h : OvStep s w w') (hO : OvAt w q s O) {i : Nat} {C : Array Value} {T : TypeId} {g : Nat × Nat} (hi : w.heap[i]? = some (.cells C T g)) (h1 : T ≠ 3) (h2 : T ≠ 86) : w'.heap[i]? = some (.cells C T g) :=
  (h.heap (lt_of_heap hi) ⟨ne_type hi hO.board.row.body h2, free_ne hi hO.board h1, ne_map hi hO.base, ne_map hi hO.was, ne_map hi hO.fresh⟩).trans hi
/-- What Put leaves, with the entry's cells written out. -/
theorem put12_out (w : World) (q : Nat) (s : OvB) (O : Ov) (t : Int) (h p : Int) (hO : OvAt w q s O) (hk : KI (h, p)) (hl : OvSmall O) (hok : OvOk O t) (ht : Steps w) (h0 : 0 ≤ t) (ht9 : t ≤ 900000000000000) :
    Calls Tryd.prog 7 #[.pointer (some ⟨q, 0, none⟩), .agg #[.int .i64 h, .int .i64 p]] w fun x w' => ∃ (O' : Ov) (a b : Int) (c : Nat) (err : Int), x = .returned (.tuple #[.agg #[.int .i64 a, .int .i64 b, .int .u32 (c : Nat)], .int .i64 err]) ∧ PutRel O (h, p) O' (a, b, c) err ∧ OvAt w' q s O' ∧ OvStep s w w' ∧ OvOk O' (t + 1) ∧ totalO O' ≤ totalO O + 1 :=
  (put12_any w q s O t h p hO hk hl hok ht h0 ht9).mono fun x w' ⟨O', ⟨a, b, c⟩, err, he, hp, ho, hs⟩ => ⟨O', a, b, c, err, he, hp, ho, hs, put_ok12 hok h0 hp, total_put hok hp⟩
theorem small_of {O : Ov} (h : totalO O ≤ 490) : OvSmall O := by unfold OvSmall; unfold totalO at h; omega
theorem key10 : KI ((1 : Int), (0 : Int)) := by unfold KI I64; decide
theorem own_of (W : World) (a b c : Value) (t : TypeId) : (W.alloc (.cells #[a, b, c] t)).heap[W.heap.size]? = some (.cells #[a, b, c] t (0, 0)) := heap_alloc_new W _
set_option maxHeartbeats 4000000 in
theorem awake12_any (w : World) (ht : Steps w) : Calls Tryd.prog 5 #[] w fun x w' => x = .returned (.bool true) ∧ Below w.heap.size w w' := by
  have HT : Hid (Steps w) := ht
  have HN : Hid (Calls Tryd.prog 6 #[.int .i64 4, .slice none 0 0] w fun x w' => Below w.heap.size w w' ∧ ∃ q s, x = .returned (.tuple #[.pointer (some ⟨q, 0, none⟩), .int .i64 0]) ∧ OvAt w' q s (newO 4 []) ∧ OvNewB s w.heap.size) := by
    refine (new12_any w 4 (.slice none 0 0) [] (Els.nil w) (by decide) (by simp) HT.out (by unfold I64; decide)).mono ?_
    rintro x w' ⟨hb, ⟨-, -, -, q, s, rfl, ho, hn, -⟩ | ⟨hno, -⟩⟩
    · exact ⟨hb, q, s, rfl, ho, hn⟩
    · exact absurd ⟨by decide, by decide, rfl⟩ hno
  clear ht
  go_enter Tryd.func5, Tryd.ntmps5
  go_wp2_with fail
  refine HN.out.mono ?_
  rintro x w1 ⟨hb, q, s, rfl, ho, hnew⟩
  have HB1 : Hid (Below w.heap.size w w1) := hb
  have HW : Hid (OvNewB s w.heap.size) := hnew
  obtain ⟨V1, hV⟩ : ∃ V, V = w1.alloc (.cells #[.int .i64 1, .int .i64 0] 29) := ⟨_, rfl⟩
  have HBV : Hid (Below w1.heap.size w1 V1) := by rw [hV]; exact (Below.refl _ _).alloc (Nat.le_refl _) _
  have HK1 : Hid (V1.heap[w1.heap.size]? = some (.cells #[.int .i64 1, .int .i64 0] 29 (0, 0))) := by rw [hV]; exact heap_alloc_new w1 _
  have HO1 : Hid (OvAt V1 q s (newO 4 [])) := ho.kept HBV.out
  have HB2 : Hid (Below w.heap.size w V1) := HB1.out.trans (HBV.out.mono HB1.out.size)
  have HP1 := put12_out V1 q s (newO 4 []) 281474976710655 1 0 HO1.out key10 (small_of (by decide)) (newO_ok (by decide) (by decide)) (HT.out.below HB2.out) (by decide) (by decide)
  clear hb ho hnew HN HBV HB1
  go_wp2_with fail
  rw [← hV]
  generalize w1.heap.size = K at *
  clear hV
  refine HP1.mono ?_
  rintro x w2 ⟨O1, a, b, c, err, rfl, hp, ho2, hs2, hok2, htt⟩
  obtain ⟨ex, rfl, hex⟩ := ex12 hp
  simp only [Prod.mk.injEq] at ex
  obtain ⟨rfl, rfl, rfl⟩ := ex
  have HEX : Hid (∀ O2 x2 e2, PutRel (commitO O1) (1, 0) O2 x2 e2 → x2 = (1, 2, 0) ∧ totalO O2 = 2 ∧ O2.base.length = 0 ∧ O2.fresh.length = 1 ∧ O2.was.length = 1 ∧ ∀ O3 x3 e3, PutRel O2 (1, 0) O3 x3 e3 → x3 = (1, 3, 0)) := hex
  have HOK1 : Hid (OvOk O1 (281474976710655 + 1)) := hok2
  have HT1 : Hid (totalO O1 ≤ 1) := htt
  -- the first entry's variable
  obtain ⟨V2, hV⟩ : ∃ V, V = w2.alloc (.cells #[.int .i64 0, .int .i64 1, .int .u32 ((0 : Nat) : Int)] 34) := ⟨_, rfl⟩
  have hbv : Below w2.heap.size w2 V2 := by rw [hV]; exact (Below.refl _ _).alloc (Nat.le_refl _) _
  have HE1 : Hid (V2.heap[w2.heap.size]? = some (.cells #[.int .i64 0, .int .i64 1, .int .u32 ((0 : Nat) : Int)] 34 (0, 0))) := by rw [hV]; exact heap_alloc_new w2 _
  have HO2 : Hid (OvAt V2 q s O1) := ho2.kept hbv
  have hk2 := hs2.cellsKept HO1.out HK1.out (by decide) (by decide)
  have HK2 : Hid (V2.heap[K]? = some (.cells #[.int .i64 1, .int .i64 0] 29 (0, 0))) := (hbv.block K (lt_of_heap hk2)).trans hk2
  have HB3 : Hid (Below w.heap.size w V2) := (HB2.out.trans (hs2.belowNew HW.out HB2.out.size)).trans (hbv.mono (Nat.le_trans HB2.out.size hs2.size))
  have HC := com12_any V2 q s O1 _ HO2.out (small_of (Nat.le_trans HT1.out (by decide))) HOK1.out (HT.out.below HB3.out) (part_i64 HOK1.out (c := 1) (by decide) HOK1.out.rw)
  clear hp ho2 hs2 hok2 hex htt hk2 hbv HP1 HO1 HK1 HB2
  go_wp2_with fail
  simp only [Int.natCast_zero] at hV
  try rw [← hV]
  generalize w2.heap.size = E1 at *
  refine HC.mono ?_
  rintro x w3 ⟨rfl, ho3, hs3⟩
  have HO3 : Hid (OvAt w3 q s (commitO O1)) := ho3
  have HK3 : Hid (w3.heap[K]? = some (.cells #[.int .i64 1, .int .i64 0] 29 (0, 0))) := hs3.cellsKept HO2.out HK2.out (by decide) (by decide)
  have HE3 : Hid (w3.heap[E1]? = some (.cells #[.int .i64 0, .int .i64 1, .int .u32 ((0 : Nat) : Int)] 34 (0, 0))) := hs3.cellsKept HO2.out HE1.out (by decide) (by decide)
  have HB4 : Hid (Below w.heap.size w w3) := HB3.out.trans (hs3.belowNew HW.out HB3.out.size)
  have HOK3 : Hid (OvOk (commitO O1) (281474976710655 + 1)) := commit_ok12 HOK1.out
  have HT3 : Hid (totalO (commitO O1) ≤ 1) := Nat.le_trans (total_commit HOK1.out) HT1.out
  obtain ⟨k0, k1⟩ := cells2' HK3.out
  have HP2 := put12_out w3 q s (commitO O1) _ 1 0 HO3.out key10 (small_of (Nat.le_trans HT3.out (by decide))) HOK3.out (HT.out.below HB4.out) (by decide) (by decide)
  clear hV ho3 hs3 HC HO2 HK2 HE1 HB3
  go_wp2_with fail
  refine HP2.mono ?_
  rintro x w4 ⟨O2, a, b, c, err, rfl, hp, ho4, hs4, hok4, htt⟩
  obtain ⟨ex, hto, hl0, hl1, hl2, hex⟩ := HEX.out _ _ _ hp
  simp only [Prod.mk.injEq] at ex
  obtain ⟨rfl, rfl, rfl⟩ := ex
  have HEX2 : Hid (∀ O3 x3 e3, PutRel O2 (1, 0) O3 x3 e3 → x3 = (1, 3, 0)) := hex
  have HLN : Hid (totalO O2 = 2 ∧ O2.base.length = 0 ∧ O2.fresh.length = 1 ∧ O2.was.length = 1) := ⟨hto, hl0, hl1, hl2⟩
  have HOK4 : Hid (OvOk O2 (281474976710655 + 1 + 1)) := hok4
  obtain ⟨V3, hV⟩ : ∃ V, V = w4.alloc (.cells #[.int .i64 1, .int .i64 2, .int .u32 ((0 : Nat) : Int)] 34) := ⟨_, rfl⟩
  have hbv : Below w4.heap.size w4 V3 := by rw [hV]; exact (Below.refl _ _).alloc (Nat.le_refl _) _
  have HF4 : Hid (V3.heap[w4.heap.size]? = some (.cells #[.int .i64 1, .int .i64 2, .int .u32 ((0 : Nat) : Int)] 34 (0, 0))) := by rw [hV]; exact heap_alloc_new w4 _
  have HO4 : Hid (OvAt V3 q s O2) := ho4.kept hbv
  have hk4 := hs4.cellsKept HO3.out HK3.out (by decide) (by decide)
  have he4 := hs4.cellsKept HO3.out HE3.out (by decide) (by decide)
  have HK4 : Hid (V3.heap[K]? = some (.cells #[.int .i64 1, .int .i64 0] 29 (0, 0))) := (hbv.block K (lt_of_heap hk4)).trans hk4
  have HE4 : Hid (V3.heap[E1]? = some (.cells #[.int .i64 0, .int .i64 1, .int .u32 ((0 : Nat) : Int)] 34 (0, 0))) := (hbv.block E1 (lt_of_heap he4)).trans he4
  have HB5 : Hid (Below w.heap.size w V3) := (HB4.out.trans (hs4.belowNew HW.out HB4.out.size)).trans (hbv.mono (Nat.le_trans HB4.out.size hs4.size))
  have HPA := parts12_any V3 q s O2 HO4.out (small_of (by rw [HLN.out.1]; decide)) ⟨part_i64 HOK4.out (c := 0) (by decide) HOK4.out.rb, part_i64 HOK4.out (c := 1) (by decide) HOK4.out.rw, part_i64 HOK4.out (c := 2) (by decide) HOK4.out.rf⟩
  clear hp ho4 hs4 hok4 hex htt hk4 he4 hbv HP2 HO3 HK3 HE3 HB4 HEX hto hl0 hl1 hl2 k0 k1
  go_wp2_with fail
  simp only [Int.natCast_zero] at hV
  try rw [← hV]
  generalize w4.heap.size = E2 at *
  clear hV
  refine HPA.mono ?_
  rintro x w5 ⟨u1, u2, u3, rfl, hn1, hn2, hn3, hb5⟩
  obtain ⟨a1, c1, rfl⟩ := hn1.shape
  obtain ⟨a2, c2, rfl⟩ := hn2.shape
  obtain ⟨a3, c3, rfl⟩ := hn3.shape
  rw [slots_len, HLN.out.2.1]
  rw [slots_len, HLN.out.2.2.1]
  rw [slots_len, HLN.out.2.2.2]
  have HO5 : Hid (OvAt w5 q s O2) := HO4.out.kept hb5
  have HK5 : Hid (w5.heap[K]? = some (.cells #[.int .i64 1, .int .i64 0] 29 (0, 0))) := (hb5.block K (lt_of_heap HK4.out)).trans HK4.out
  have HE5 : Hid (w5.heap[E1]? = some (.cells #[.int .i64 0, .int .i64 1, .int .u32 ((0 : Nat) : Int)] 34 (0, 0))) := (hb5.block E1 (lt_of_heap HE4.out)).trans HE4.out
  have HF5 : Hid (w5.heap[E2]? = some (.cells #[.int .i64 1, .int .i64 2, .int .u32 ((0 : Nat) : Int)] 34 (0, 0))) := (hb5.block E2 (lt_of_heap HF4.out)).trans HF4.out
  have HB6 : Hid (Below w.heap.size w w5) := HB5.out.trans (hb5.mono HB5.out.size)
  obtain ⟨k0, k1⟩ := cells2' HK5.out
  have HP3 := put12_out w5 q s O2 _ 1 0 HO5.out key10 (small_of (by rw [HLN.out.1]; decide)) HOK4.out (HT.out.below HB6.out) (by decide) (by decide)
  clear hn1 hn2 hn3 hb5 HPA HO4 HK4 HE4 HF4 HB5
  go_wp2_with fail
  refine HP3.mono ?_
  rintro x w6 ⟨O3, a, b, c, err, rfl, hp, ho6, hs6, -, -⟩
  have ex := HEX2.out _ _ _ hp
  simp only [Prod.mk.injEq] at ex
  obtain ⟨rfl, rfl, rfl⟩ := ex
  obtain ⟨V4, hV⟩ : ∃ V, V = w6.alloc (.cells #[.int .i64 1, .int .i64 3, .int .u32 ((0 : Nat) : Int)] 34) := ⟨_, rfl⟩
  have hbv : Below w6.heap.size w6 V4 := by rw [hV]; exact (Below.refl _ _).alloc (Nat.le_refl _) _
  have HG6 : Hid (V4.heap[w6.heap.size]? = some (.cells #[.int .i64 1, .int .i64 3, .int .u32 ((0 : Nat) : Int)] 34 (0, 0))) := by rw [hV]; exact heap_alloc_new w6 _
  have he6 := hs6.cellsKept HO5.out HE5.out (by decide) (by decide)
  have hf6 := hs6.cellsKept HO5.out HF5.out (by decide) (by decide)
  have HE6 : Hid (V4.heap[E1]? = some (.cells #[.int .i64 0, .int .i64 1, .int .u32 ((0 : Nat) : Int)] 34 (0, 0))) := (hbv.block E1 (lt_of_heap he6)).trans he6
  have HF6 : Hid (V4.heap[E2]? = some (.cells #[.int .i64 1, .int .i64 2, .int .u32 ((0 : Nat) : Int)] 34 (0, 0))) := (hbv.block E2 (lt_of_heap hf6)).trans hf6
  have HB7 : Hid (Below w.heap.size w V4) := (HB6.out.trans (hs6.belowNew HW.out HB6.out.size)).trans (hbv.mono (Nat.le_trans HB6.out.size hs6.size))
  obtain ⟨⟨p0, p1, p2⟩, -⟩ := cells3' HE6.out
  obtain ⟨⟨r0, r1, r2⟩, -⟩ := cells3' HF6.out
  obtain ⟨⟨t0, t1, t2⟩, -⟩ := cells3' HG6.out
  clear hp ho6 hs6 he6 hf6 hbv HP3 HO5 HK5 HE5 HF5 HB6 HEX2 k0 k1 HE6 HF6 HG6
  rw [hV] at p0 p1 p2 r0 r1 r2 t0 t1 t2
  rw [hV] at HB7
  simp only [Int.natCast_zero] at HB7 p0 p1 p2 r0 r1 r2 t0 t1 t2
  clear hV
  go_wp2
  go_ret
  exact ⟨rfl, HB7.out⟩
end Go.Proofs.YtjhkcdnfnmglhaaDoor
