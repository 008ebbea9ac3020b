/- Contract of entry.Get: the right list at the beginning of octets. -/
import Derived.Test.YtfclhehpbniapaaDoorWalkTake11
import Derived.Test.YtfclhehpbniapaaDoorRefGet11
import Derived.Test.YtfclhehpbniapaaDoorWalkEnt11
namespace Go.Proofs.YtfclhehpbniapaaDoor
open Go.RowKit
set_option linter.unusedVariables false

/-! ### The two lists -/
def listP (zs : List Nat) (k : Nat) : List Md := (List.range k).map fun i => recP (zs.drop (4 + 18 * i))
theorem listP_length (zs : List Nat) (k : Nat) : (listP zs k).length = k := by simp [listP]
theorem listP_at {zs : List Nat} {k i : Nat} (h : i < k) : (listP zs k)[i]? = some (recP (zs.drop (4 + 18 * i))) := by
  unfold listP
  rw [List.getElem?_map, List.getElem?_range h]
  rfl
theorem listG_at {zs : List Nat} {k i : Nat} (h : i < k) : (listG zs k)[i]? = some (recG (sliceG zs i)) := by
  unfold listG
  rw [List.getElem?_map, List.getElem?_range h]
  rfl
theorem recG_parts (x : List Nat) : recG (x.take 18) = ⟨getO (x.take 4) / 4096, getO (x.take 4) % 4096, getO ((x.drop 4).take 4), getO ((x.drop 8).take 6), (getO ((x.drop 14).take 4)).toNat⟩ := by
  unfold recG
  simp [List.take_take, List.drop_take]
/-- They are one, or neither's key is right. -/
def Alike (a b : Md) : Prop := a = b ∨ (isR a.k = false ∧ isR b.k = false)
theorem Alike.symm {a b : Md} (h : Alike a b) : Alike b a := h.elim (fun e => .inl e.symm) (fun e => .inr ⟨e.2, e.1⟩)
theorem rec_alike (zs : List Nat) (i : Nat) : Alike (recP (zs.drop (4 + 18 * i))) (recG (sliceG zs i)) := by
  unfold sliceG
  generalize zs.drop (4 + 18 * i) = x
  rw [recG_parts]
  unfold recP ofK
  cases h : isR (getO (x.take 4) / 4096, getO (x.take 4) % 4096)
  · right
    refine ⟨?_, h⟩
    simp [Md.k, isR]
  · left
    simp
theorem right_alike {n : Int} {l1 l2 : List Md} (hl : l1.length = l2.length) (h : ∀ (i : Nat) a b, l1[i]? = some a → l2[i]? = some b → Alike a b) (hr : rightM n l1 = true) : l1 = l2 := by
  apply List.ext_getElem?
  intro i
  rcases Nat.lt_or_ge i l1.length with hi | hi
  · have h1 : l1[i]? = some l1[i] := List.getElem?_eq_getElem hi
    have h2 : l2[i]? = some (l2[i]'(by omega)) := List.getElem?_eq_getElem (by omega)
    rcases h i _ _ h1 h2 with e | ⟨e, _⟩
    · rw [h1, h2, e]
    · have := rightM_ok hr h1
      unfold okM at this
      rw [e] at this
      simp at this
  · rw [List.getElem?_eq_none hi, List.getElem?_eq_none (by omega)]
theorem right_same {n : Int} {l1 l2 : List Md} (hl : l1.length = l2.length) (h : ∀ (i : Nat) a b, l1[i]? = some a → l2[i]? = some b → Alike a b) : rightM n l1 = rightM n l2 := by
  cases h1 : rightM n l1 <;> cases h2 : rightM n l2
  · rfl
  · have := right_alike hl.symm (fun i a b ha hb => (h i b a hb ha).symm) h2
    rw [this, h1] at h2
    cases h2
  · have := right_alike hl h h1
    rw [← this, h1] at h2
    cases h2
  · rfl
theorem list_alike (zs : List Nat) (k : Nat) : ∀ (i : Nat) a b, (listP zs k)[i]? = some a → (listG zs k)[i]? = some b → Alike a b := by
  intro i a b ha hb
  have hi : i < k := by have := (List.getElem?_eq_some_iff.1 ha).1; rwa [listP_length] at this
  rw [listP_at hi, Option.some.injEq] at ha
  rw [listG_at hi, Option.some.injEq] at hb
  subst ha hb
  exact rec_alike zs i
theorem listP_right (n : Int) (zs : List Nat) (k : Nat) : rightM n (listP zs k) = rightM n (listG zs k) := right_same (by rw [listP_length, listG_length]) (list_alike zs k)
theorem listP_same {n : Int} {zs : List Nat} {k : Nat} (h : rightM n (listP zs k) = true) : listP zs k = listG zs k := right_alike (by rw [listP_length, listG_length]) (list_alike zs k) h
theorem recP_fit {zs : List Nat} (h : ∀ z ∈ zs, z < 256) (hl : 18 ≤ zs.length) : MdI (recP zs) := by
  have b1 := getO_bd (zs := zs.take 4) (fun z hz => h z (List.mem_of_mem_take hz)) (k := 4) (by rw [List.length_take]; omega) (by decide)
  have b2 := getO_bd (zs := (zs.drop 4).take 4) (fun z hz => h z (List.mem_of_mem_drop (List.mem_of_mem_take hz))) (k := 4) (by rw [List.length_take, List.length_drop]; omega) (by decide)
  have b3 := getO_bd (zs := (zs.drop 8).take 6) (fun z hz => h z (List.mem_of_mem_drop (List.mem_of_mem_take hz))) (k := 6) (by rw [List.length_take, List.length_drop]; omega) (by decide)
  have b4 := getO_bd (zs := (zs.drop 14).take 4) (fun z hz => h z (List.mem_of_mem_drop (List.mem_of_mem_take hz))) (k := 4) (by rw [List.length_take, List.length_drop]; omega) (by decide)
  have hk : ∀ k, 0 ≤ (ofK k).1 ∧ (ofK k).1 ≤ 64 ∧ 0 ≤ (ofK k).2 ∧ (ofK k).2 ≤ 4095 := fun k => by
    unfold ofK
    split
    · rename_i hh
      have := isR_iff.1 hh
      omega
    · simp
  have k1 := hk (getO (zs.take 4))
  unfold recP MdI I64
  simp only
  omega
theorem listP_fit {zs : List Nat} (h : ∀ z ∈ zs, z < 256) {k : Nat} (hk : 4 + 18 * k ≤ zs.length) : ∀ m ∈ listP zs k, MdI m := by
  intro m hm
  obtain ⟨i, hi⟩ := List.getElem?_of_mem hm
  have hik : i < k := by have := (List.getElem?_eq_some_iff.1 hi).1; rwa [listP_length] at this
  rw [listP_at hik, Option.some.injEq] at hi
  subst hi
  exact recP_fit (fun z hz => h z (List.mem_of_mem_drop hz)) (by rw [List.length_drop]; omega)

/-! ### The row that is filled -/
structure RowP (w : World) (G n : Nat) (xs : List Md) (k : Nat) : Prop where
  there : w.there G 0 (n * 5)
  no : NoOct w G
  got : ∀ j y, j < k → xs[j]? = some y → w.rangeAt G (j * 5) (encM y)
theorem RowP.lt {w : World} {G n : Nat} {xs : List Md} {k : Nat} (h : RowP w G n xs k) (hn : 0 < n) : G < w.heap.size := by
  have h0 := (h.there 0 (by omega)).1
  obtain ⟨u, hu⟩ := Option.isSome_iff_exists.1 h0
  exact cell_lt hu
theorem RowP.only {w w' : World} {G n p : Nat} {xs : List Md} {k : Nat} (h : RowP w G n xs k) (ho : Only p w w') (hG : G < w.heap.size) (hp : G ≠ p) : RowP w' G n xs k := by
  have hc : ∀ i, w'.cell? ⟨G, i, none⟩ = w.cell? ⟨G, i, none⟩ := fun i => ho.cell (q := ⟨G, i, none⟩) hG hp
  have hf : ∀ i, w'.frozen? ⟨G, i, none⟩ = w.frozen? ⟨G, i, none⟩ := fun i => World.frozen?_of_block (w := w) (ho.heap hG hp)
  refine ⟨fun j hj => ?_, fun i z e => h.no i z (by rw [← hc]; exact e), fun j y hj hy i v hv => ?_⟩
  · rw [hc, hf]
    exact h.there j hj
  · rw [hc]
    exact h.got j y hj hy i v hv
theorem noOct_setCells {G : Nat} : ∀ (vs : List Value) (o : Nat) (w : World), NoOct w G → w.there G o vs.length → (∀ v ∈ vs, ∀ z, v ≠ .int .u8 z) → NoOct (w.setCells G o vs) G := by
  intro vs o w hn ht hv i z e
  by_cases hi : o ≤ i ∧ i < o + vs.length
  · obtain ⟨j, rfl⟩ : ∃ j, i = o + j := ⟨i - o, by omega⟩
    have hj : j < vs.length := by omega
    have h1 := World.rangeAt_setCells_same w G o vs ht j vs[j] (List.getElem?_eq_getElem hj)
    rw [e, Option.some.injEq] at h1
    exact hv _ (List.getElem_mem hj) z h1.symm
  · have h1 := World.cell?_setCells_out G vs o w ⟨G, i, none⟩ (fun _ _ => by show i < o ∨ o + vs.length ≤ i; omega)
    rw [h1] at e
    exact hn i z e
theorem encM_no8 (m : Md) : ∀ v ∈ encM m, ∀ z, v ≠ .int .u8 z := by
  intro v hv z
  simp only [encM, List.mem_cons, List.not_mem_nil, or_false] at hv
  rcases hv with rfl | rfl | rfl | rfl | rfl <;> simp
theorem there_part {w : World} {G m o n : Nat} (h : w.there G 0 m) (hn : o + n ≤ m) : w.there G o n := fun j hj => by
  have := h (o + j) (by omega)
  rwa [Nat.zero_add] at this
theorem RowP.set {w : World} {G n : Nat} {xs : List Md} {k : Nat} (h : RowP w G n xs k) (hk : k < n) {y : Md} (hy : xs[k]? = some y) : RowP (w.setCells G (k * 5) (encM y)) G n xs (k + 1) := by
  have ht : w.there G (k * 5) (encM y).length := there_part h.there (by rw [encM_ok.len]; omega)
  refine ⟨World.there_setCells h.there G _ _, noOct_setCells _ _ _ h.no ht (encM_no8 y), fun j z hj hz => ?_⟩
  by_cases e : j = k
  · subst e
    rw [hy, Option.some.injEq] at hz
    subst hz
    exact World.rangeAt_setCells_same w G _ _ ht
  · exact World.rangeAt_setCells_apart (h.got j z (by omega) hz) G _ _ (.inr (.inl (by rw [encM_ok.len]; omega)))
theorem RowP.els {w : World} {G n : Nat} {xs : List Md} (h : RowP w G n xs n) (hG : G < w.heap.size) (hn : xs.length = n) (hm : n ≤ maxLen) : Els encM 5 w (.slice (some ⟨G, 0, none⟩) n n) xs := by
  subst hn
  refine ⟨hm, _, _, rfl, Nat.le_refl _, hm, .inr ⟨_, rfl, .inr ⟨G, 0, rfl, hG, fun j y hj i u hu => ?_⟩⟩⟩
  have := h.got j y (List.getElem?_eq_some_iff.1 hj).1 hj i u hu
  rwa [Nat.zero_add]
theorem made_row (w : World) (n : Nat) (xs : List Md) : RowP (w.alloc (.cells (madeCells #[.int .i64 0, .int .i64 0, .int .i64 0, .int .i64 0, .int .u32 0] (n * 5)) 51)) w.heap.size n xs 0 := by
  have hh := heap_alloc_new w (.cells (madeCells #[.int .i64 0, .int .i64 0, .int .i64 0, .int .i64 0, .int .u32 0] (n * 5)) 51)
  refine ⟨there_five hh (by rw [size_madeCells]; exact Nat.le_refl _), fun i z e => ?_, fun j y hj => absurd hj (by omega)⟩
  rw [cell_of_row _ _ _ _ _ _ hh] at e
  have hi : i < n * 5 := by
    have := (Array.getElem?_eq_some_iff.1 e).1
    rwa [size_madeCells] at this
  simp only [madeCells] at e
  have h5 : i % 5 = 0 ∨ i % 5 = 1 ∨ i % 5 = 2 ∨ i % 5 = 3 ∨ i % 5 = 4 := by omega
  rcases h5 with q | q | q | q | q <;> simp [hi, q] at e
/-- 'make([]api.Mapped, n)'. -/
theorem wpList_make_mds (w : World) {ops : Array Oper} {rest : List Oper} {o : Oper} {a : Act} {Q : Exit → Act → World → Prop} (hg : o.guard = none) (l c : Operand) (hop : o.op = Op.makeSlice 32 l c) (xs : List Md)
    (n : Nat) (hl : a.eval l = .int .i64 (n : Nat)) (hc : a.eval c = .int .i64 (n : Nat)) (hn : n ≤ 100000)
    (hK : ∀ w', Hid (RowP w' w.heap.size n xs 0) → Hid (Below w.heap.size w w') → Hid (w.heap.size < w'.heap.size) → wpList Tryd.prog ops Q rest (a.put o.dst (.slice (some ⟨w.heap.size, 0, none⟩) n n)) w') : wpList Tryd.prog ops Q (o :: rest) a w := by
  obtain ⟨i0, hi, hz0, hz1, hz2⟩ := info_parts Tryd.infoM11
  refine wpList_plain hg fun K hK' => ?_
  have hr := run_make (P := Tryd.prog) w 32 51 i0 _ Tryd.underlying32 hi hz0 .i64 .i64 (n : Nat) (n : Nat) (by omega) (Int.le_refl _) (by rw [hz2]; omega) (by omega)
  simp only [Int.toNat_natCast, hz1] at hr
  unfold Oper.wp
  simp [execOp, hop, hl, hc, hr, Result.andThen]
  exact hK' _ _ (hK _ (made_row w n xs) ((Below.refl _ _).alloc (Nat.le_refl _) _) (by simp [Hid]))

/-! ### Get -/
theorem getM_none {n : Int} {zs : List Nat} (h : fitsG zs = false) : getM n zs = none := by
  unfold getM
  rw [if_neg]
  rintro ⟨h2, _⟩
  rw [h] at h2
  cases h2
theorem getM_right {n : Int} {zs : List Nat} (hf : fitsG zs = true) : getM n zs = if rightM n (listP zs (cntG zs)) = true then some (listP zs (cntG zs)) else none := by
  unfold getM
  rw [← listP_right]
  by_cases h : rightM n (listP zs (cntG zs)) = true
  · rw [if_pos ⟨hf, h⟩, if_pos h, listP_same h]
  · rw [if_neg (fun e => h e.2), if_neg h]
theorem recP_take {y : List Nat} {m : Nat} (h : 18 ≤ m) : recP (y.take m) = recP y := by
  unfold recP
  simp only [List.take_take, List.drop_take]
  rw [Nat.min_eq_left (by omega), Nat.min_eq_left (by omega), Nat.min_eq_left (by omega), Nat.min_eq_left (by omega)]
theorem quo18 {L : Nat} (h : 4 ≤ L) : Int.tdiv ((L : Int) - 4) 18 = (((L - 4) / 18 : Nat) : Int) := by
  rw [Int.tdiv_eq_ediv_of_nonneg (by omega)]
  omega
theorem tail_drop {zs : List Nat} {S k : Nat} : ((zs.take S).drop 4).drop (18 * k) = (zs.drop (4 + 18 * k)).take (S - (4 + 18 * k)) := by
  rw [List.drop_drop, List.drop_take]

set_option maxRecDepth 20000 in
set_option maxHeartbeats 4000000 in
theorem get11_none (w : World) (n : Int) (v : Value) (zs : List Nat) (hv : Octs w v zs) (h4 : zs.length < 4) :
    Calls Tryd.prog 9 #[.int .i64 n, v] w fun e w' => e = .returned (.tuple #[.slice none 0 0, .int .i64 0]) ∧ Below w.heap.size w w' := by
  obtain ⟨a, ca, rfl⟩ := hv.shape
  have hcap : zs.length ≤ ca ∧ ca ≤ 9223372036854775807 := by
    obtain ⟨_, _, a', c', e, h3, h4, _⟩ := hv
    simp only [Value.slice.injEq] at e
    unfold maxLen at h4
    omega
  obtain ⟨L, hL⟩ : ∃ L, L = zs.length := ⟨_, rfl⟩
  rw [← hL] at hv h4 hcap ⊢
  obtain ⟨hc1, hc2⟩ := hcap
  have HL : Hid (L = zs.length) := hL
  have HV : Hid (Octs w (.slice a L ca) zs) := hv
  have HO : Hid ((RS.mk zs false).oct 4 = [] ∧ (RS.mk zs false).off 4 = .failed) := by
    have hc : ¬ (RS.mk zs false).can 4 = true := fun e => by
      have := (RS.can_iff.1 e).2
      simp only at this
      omega
    exact ⟨if_neg hc, if_neg hc⟩
  clear hL hv
  go_enter Tryd.func9, Tryd.ntmps9
  go_wp2_with fail
  refine (read_octs _ zs _ HV.out (by have := HL.out; omega)).mono ?_
  rintro e w1 ⟨p, rfl, hr1, hb1, hp1⟩
  have HR1 : Hid (IsR w1 p ⟨zs, false⟩) := hr1
  have HB1 : Hid (Below w.heap.size w w1) := hb1
  have HP : Hid (w.heap.size ≤ p) := hp1
  clear hr1 hb1 hp1
  go_wp2_with fail
  refine (rnum_any HR1.out 4).mono ?_
  rintro e w2 ⟨rfl, hr2, hk2⟩
  rw [show cl 4 8 = 4 by decide, HO.out.1, getO_nil]
  rw [show cl 4 8 = 4 by decide, HO.out.2] at hr2
  have HR2 : Hid (IsR w2 p .failed) := hr2
  have HB2 : Hid (Below w.heap.size w w2) := HB1.out.trans (hk2.below HP.out HB1.out.size)
  clear hr2 hk2
  go_wp2_with fail
  refine (done_any HR2.out).mono ?_
  rintro e w3 ⟨rfl, rfl⟩
  rw [show RS.failed.done = false from rfl]
  go_wp2
  go_ret2
  exact ⟨rfl, HB2.out⟩

set_option maxRecDepth 20000 in
set_option maxHeartbeats 4000000 in
theorem get11_some (w : World) (n : Int) (b off ca L : Nat) (zs : List Nat) (hv : Octs w (.slice (some ⟨b, off, none⟩) L ca) zs) (h4' : 4 < L) (hl : L ≤ 10000) :
    Calls Tryd.prog 9 #[.int .i64 n, .slice (some ⟨b, off, none⟩) L ca] w fun e w' => ∃ u, e = .returned (.tuple #[u, .int .i64 (ansC (getM n zs))]) ∧ Els encM 5 w' u ((getM n zs).getD []) ∧ Below w.heap.size w w' := by
  have hcap : L ≤ ca ∧ ca ≤ 9223372036854775807 := by
    obtain ⟨_, _, a', c', e, h3, h4, _⟩ := hv
    simp only [Value.slice.injEq] at e
    unfold maxLen at h4
    omega
  obtain ⟨hc1, hc2⟩ := hcap
  have h4 : 4 ≤ L := Nat.le_of_lt h4'
  have hn4 : ¬ (L : Int) ≤ 4 := by omega
  have HL : Hid (zs.length = L) := hv.lenEq
  have HV : Hid (Octs w (.slice (some ⟨b, off, none⟩) L ca) zs) := hv
  have HZ : Hid (∀ z ∈ zs, z < 256) := hv.small
  have b1 := getO_bd (zs := zs.take 4) (fun z hz => HZ.out z (List.mem_of_mem_take hz)) (k := 4) (by rw [List.length_take, HL.out]; omega) (by decide)
  obtain ⟨N, hN, hNb⟩ := nat_of_bd b1
  have HC : Hid (cntG zs = N) := by unfold Hid cntG; rw [hN, Int.toNat_natCast]
  have HT : Hid (∀ W p, IsR W p ⟨zs.take 4, false⟩ → Calls Tryd.prog 20 #[.pointer (some ⟨p, 0, none⟩), .int .i64 4] W fun e w' => e = .returned (.int .i64 (N : Nat)) ∧ IsR w' p ⟨[], false⟩ ∧ Only p W w') := fun W p h => by
    have := rnum_take h 4 (by rw [List.length_take, HL.out]; omega) (by decide)
    rw [List.take_take, Nat.min_self, hN, List.drop_take, Nat.sub_self, List.take_zero] at this
    exact this
  obtain ⟨Q, hQ⟩ : ∃ Q, Q = (L - 4) / 18 := ⟨_, rfl⟩
  have hq := quo18 h4
  rw [← hQ] at hq
  have HQ : Hid (Q = (L - 4) / 18) := hQ
  have hQb : Q ≤ 555 := by omega
  clear hv hN b1 hQ
  go_enter Tryd.func9, Tryd.ntmps9
  go_wp2_with fail
  refine (read_octs _ (zs.take 4) _ (HV.out.front h4) (by rw [List.length_take]; omega)).mono ?_
  rintro e w1 ⟨p, rfl, hr1, hb1, hp1⟩
  have HR1 : Hid (IsR w1 p ⟨zs.take 4, false⟩) := hr1
  have HB1 : Hid (Below w.heap.size w w1) := hb1
  have HP : Hid (w.heap.size ≤ p) := hp1
  clear hr1 hb1 hp1
  go_wp2_with fail
  refine (HT.out _ _ HR1.out).mono ?_
  rintro e w2 ⟨rfl, hr2, hk2⟩
  have HR2 : Hid (IsR w2 p ⟨[], false⟩) := hr2
  have HB2 : Hid (Below w.heap.size w w2) := HB1.out.trans (hk2.below HP.out HB1.out.size)
  clear hr2 hk2 HT HR1 HB1
  go_wp2_with fail
  refine (done_any HR2.out).mono ?_
  rintro e w3 ⟨rfl, rfl⟩
  rw [show (RS.mk [] false).done = true from rfl]
  clear HR2 HP
  by_cases hNQ : Q < N
  · have HG : Hid (getM n zs = none) := getM_none (by unfold fitsG; rw [HC.out, HL.out]; exact decide_eq_false (fun e => by have := HQ.out; omega))
    go_wp2
    go_ret2
    rw [HG.out]
    exact ⟨_, rfl, Els.nil _, HB2.out⟩
  · have hNQ' : N ≤ Q := Nat.le_of_not_lt hNQ
    obtain ⟨S, hSS⟩ : ∃ S, S = 4 + 18 * N := ⟨_, rfl⟩
    have hS : (4 : Int) + (N : Nat) * 18 = (S : Nat) := by omega
    have hS1 : S ≤ L := by have := HQ.out; omega
    have hS2 : S ≤ ca := by omega
    have hS3 : 4 ≤ S := by omega
    have HS : Hid (S = 4 + 18 * N) := hSS
    have HF : Hid (fitsG zs = true) := by
      unfold Hid fitsG
      rw [HC.out, HL.out]
      exact decide_eq_true (by omega)
    clear hSS hNQ
    have HV3 : Hid (Octs w3 (.slice (some ⟨b, off, none⟩) L ca) zs) := HV.out.kept HB2.out
    have HRL : Hid (((zs.take S).drop 4).length = 18 * N) := by unfold Hid; rw [List.length_drop, List.length_take, HL.out]; have := HS.out; omega
    go_wp2_with fail
    refine (read_octs _ ((zs.take S).drop 4) _ ((HV3.out.front hS1).back hS3 (.inl rfl)) (by rw [HRL.out]; omega)).mono ?_
    rintro e w4 ⟨q, rfl, hr4, hb4, hq4⟩
    have HR4 : Hid (IsR w4 q ⟨(zs.take S).drop 4, false⟩) := hr4
    have HB4 : Hid (Below w.heap.size w w4) := HB2.out.trans (hb4.mono HB2.out.size)
    have HQ4 : Hid (w.heap.size ≤ q) := Nat.le_trans HB2.out.size hq4
    clear hr4 hb4 hq4 HV3 HB2 hc1 hc2 hS1 hS2 hS3 hS hq
    have HLP : Hid ((listP zs N).length = N) := listP_length _ _
    have HAT : Hid (∀ k, k < N → (listP zs N)[k]? = some (recP (((zs.take S).drop 4).drop (18 * k)))) := fun k hk => by
      rw [listP_at hk, tail_drop, recP_take (by have := HS.out; omega)]
    have HFI : Hid (∀ m ∈ listP zs N, MdI m) := listP_fit HZ.out (by rw [HL.out]; have := HS.out; have := HF.out; unfold fitsG at this; rw [HC.out, HL.out] at this; have := of_decide_eq_true this; omega)
    have HGM : Hid (getM n zs = if rightM n (listP zs N) = true then some (listP zs N) else none) := by
      have := getM_right (n := n) HF.out
      rwa [HC.out] at this
    generalize (zs.take S).drop 4 = ys at *
    generalize listP zs N = xs at *
    clear HV HZ HC HF
    go_wp2_with (at_make; refine wpList_make_mds w4 rfl _ _ rfl xs N rfl rfl (by omega) ?_)
    intro w5 HP5 HB5 HG5
    have HR5 : Hid (IsR w5 q ⟨ys, false⟩) := HR4.out.same HB5.out
    have HB6 : Hid (Below w.heap.size w w5) := HB4.out.trans (HB5.out.mono HB4.out.size)
    have HGQ : Hid (w4.heap.size ≠ q) := fun e => by have := HR4.out.lt; omega
    have HGB : Hid (w.heap.size ≤ w4.heap.size) := HB4.out.size
    generalize w4.heap.size = G at *
    clear HR4 HB4 HB5
    go_wp2_with fail
    go_loopw [42] (fun i wr => ∃ k : Nat, i = .int .i64 (k : Nat) ∧ k ≤ N ∧ Hid (IsR wr q ⟨ys.drop (18 * k), false⟩) ∧ Hid (RowP wr G N xs k) ∧ Hid (Below w.heap.size w wr) ∧ Hid (G < wr.heap.size)) (fun i _ => N - (intOf i).toNat)
    case atStart => exact ⟨0, rfl, Nat.zero_le _, HR5.out, HP5.out, HB6.out, HG5.out⟩
    case round =>
      obtain ⟨k, rfl, hk, HR, HP, HB, HG⟩ := hrel
      clear HR5 HP5 HB6 HG5
      by_cases hlt : k < N
      · have HY : Hid (xs[k]? = some (recP (ys.drop (18 * k)))) := HAT.out k hlt
        have H18 : Hid (18 ≤ (ys.drop (18 * k)).length) := by unfold Hid; rw [List.length_drop, HRL.out]; omega
        go_wp2_with fail
        refine (take11_any HR.out H18.out).mono ?_
        rintro e w7 ⟨rfl, hr7, hk7⟩
        rw [List.drop_drop] at hr7
        have HR7 : Hid (IsR w7 q ⟨ys.drop (18 * (k + 1)), false⟩) := hr7
        have HP7 : Hid (RowP w7 G N xs k) := HP.out.only hk7 HG.out HGQ.out
        have HG7 : Hid (G < w7.heap.size) := Nat.lt_of_lt_of_le HG.out hk7.size
        have HB7 : Hid (Below w.heap.size w w7) := HB.out.trans (hk7.below HQ4.out HB.out.size)
        clear hr7 hk7 HR HP HB HG H18
        generalize recP (ys.drop (18 * k)) = m at *
        have HTH : Hid (w7.there G (k * 5) (encM m).toArray.size) := there_part HP7.out.there (by show k * 5 + 5 ≤ N * 5; omega)
        have HSZ : Hid ((Tryd.prog.info? 51).map (·.size) = some (encM m).toArray.size) := Tryd.sizeM11
        have HPX : Hid (RowP (w7.setCells G (k * 5) (encM m)) G N xs (k + 1)) := HP7.out.set hlt HY.out
        have HRX : Hid (IsR (w7.setCells G (k * 5) (encM m)) q ⟨ys.drop (18 * (k + 1)), false⟩) := HR7.out.only HP7.out.no (fun e => HGQ.out e.symm) (Kept.setCells (K := fun k => k < w7.heap.size ∧ k ≠ G) (Kept.refl _ _) (fun h => h.2 rfl) _ _)
        have HBX : Hid (Below w.heap.size w (w7.setCells G (k * 5) (encM m))) := below_setCells HB7.out HGB.out _ _
        have HGX : Hid (G < (w7.setCells G (k * 5) (encM m)).heap.size) := by
          have := HPX.out.lt (by omega)
          exact this
        go_wp2_with (with_reducible show wpList _ _ _ (Oper.mk _ (Op.store 51 _ _) _ _ _ _ :: _) _ _; go_must (refine wpList_store_mid rfl 51 _ _ rfl G (k * 5) (encM m).toArray rfl rfl HTH.out HSZ.out (all_oneCell_toArray (encM_ok.one _)) ?_))
        go_wp2
        go_roundw
        case rel => exact ⟨k + 1, by go_num, by omega, HRX.out, HPX.out, HBX.out, HGX.out⟩
        case measure => simp [intOf]; omega
      · have hkn : k = N := by omega
        have HE : Hid (Els encM 5 wr (.slice (some ⟨G, 0, none⟩) N N) xs) := by
          have := HP.out
          rw [hkn] at this
          exact this.els HG.out HLP.out (by unfold maxLen; omega)
        have hS' : (4 : Int) + (N : Nat) * 18 = (S : Nat) := by have := HS.out; omega
        clear HP HG HR HAT HRL
        have HRT : Hid (∀ W, Els encM 5 W (.slice (some ⟨G, 0, none⟩) N N) xs → Calls Tryd.prog 23 #[.int .i64 n, .slice (some ⟨G, 0, none⟩) N N] W fun e w' => e = .returned (.bool (rightM n xs)) ∧ Below W.heap.size W w') := fun W h => right11_any W _ xs n h HFI.out (by rw [HLP.out]; omega)
        go_wp2_with fail
        refine (HRT.out wr HE.out).mono ?_
        rintro e w8 ⟨rfl, hb8⟩
        have HB8 : Hid (Below w.heap.size w w8) := HB.out.trans (hb8.mono HB.out.size)
        have HE8 : Hid (Els encM 5 w8 (.slice (some ⟨G, 0, none⟩) N N) xs) := HE.out.kept hb8
        clear hb8 HE HRT HB
        generalize rightM n xs = R at *
        cases R
        · go_wp2
          go_ret2
          rw [HGM.out]
          exact ⟨_, rfl, Els.nil _, HB8.out⟩
        · have HAN : Hid (ansC (some xs) = (S : Nat)) := by
            show 4 + 18 * ((xs.length : Nat) : Int) = (S : Nat)
            rw [HLP.out]
            omega
          have HGM2 : Hid (getM n zs = some xs) := HGM.out
          go_wp2
          go_ret2
          rw [HGM2.out, HAN.out]
          exact ⟨_, rfl, HE8.out, HB8.out⟩

set_option maxRecDepth 20000 in
set_option maxHeartbeats 4000000 in
theorem get11_four (w : World) (n : Int) (b off ca : Nat) (zs : List Nat) (hv : Octs w (.slice (some ⟨b, off, none⟩) 4 ca) zs) :
    Calls Tryd.prog 9 #[.int .i64 n, .slice (some ⟨b, off, none⟩) 4 ca] w fun e w' => ∃ u, e = .returned (.tuple #[u, .int .i64 (ansC (getM n zs))]) ∧ Els encM 5 w' u ((getM n zs).getD []) ∧ Below w.heap.size w w' := by
  have hcap : 4 ≤ ca ∧ ca ≤ 9223372036854775807 := by
    obtain ⟨_, _, a', c', e, h3, h4, _⟩ := hv
    simp only [Value.slice.injEq] at e
    unfold maxLen at h4
    omega
  obtain ⟨hc1, hc2⟩ := hcap
  have hm : ca = 4 ∨ 4 < ca := by omega
  have HL : Hid (zs.length = 4) := hv.lenEq
  have HV : Hid (Octs w (.slice (some ⟨b, off, none⟩) 4 ca) zs) := hv
  have HZ : Hid (∀ z ∈ zs, z < 256) := hv.small
  have b1 := getO_bd (zs := zs.take 4) (fun z hz => HZ.out z (List.mem_of_mem_take hz)) (k := 4) (by rw [List.length_take, HL.out]; omega) (by decide)
  obtain ⟨N, hN, hNb⟩ := nat_of_bd b1
  have HC : Hid (cntG zs = N) := by unfold Hid cntG; rw [hN, Int.toNat_natCast]
  have HT : Hid (∀ W p, IsR W p ⟨zs, false⟩ → Calls Tryd.prog 20 #[.pointer (some ⟨p, 0, none⟩), .int .i64 4] W fun e w' => e = .returned (.int .i64 (N : Nat)) ∧ IsR w' p ⟨[], false⟩ ∧ Only p W w') := fun W p h => by
    have := rnum_take h 4 (by rw [HL.out]; exact Nat.le_refl _) (by decide)
    rw [hN, List.drop_of_length_le (by rw [HL.out]; exact Nat.le_refl _)] at this
    exact this
  clear hv hN b1
  rcases hm with rfl | hm
  all_goals
    go_enter Tryd.func9, Tryd.ntmps9
    go_wp2_with fail
    refine (read_octs _ zs _ HV.out (by rw [HL.out]; decide)).mono ?_
    rintro e w1 ⟨p, rfl, hr1, hb1, hp1⟩
    have HR1 : Hid (IsR w1 p ⟨zs, false⟩) := hr1
    have HB1 : Hid (Below w.heap.size w w1) := hb1
    have HP : Hid (w.heap.size ≤ p) := hp1
    clear hr1 hb1 hp1
    go_wp2_with fail
    refine (HT.out _ _ HR1.out).mono ?_
    rintro e w2 ⟨rfl, hr2, hk2⟩
    have HR2 : Hid (IsR w2 p ⟨[], false⟩) := hr2
    have HB2 : Hid (Below w.heap.size w w2) := HB1.out.trans (hk2.below HP.out HB1.out.size)
    clear hr2 hk2 HT HR1 HB1
    go_wp2_with fail
    refine (done_any HR2.out).mono ?_
    rintro e w3 ⟨rfl, rfl⟩
    rw [show (RS.mk [] false).done = true from rfl]
    clear HR2 HP
    by_cases hNQ : 0 < N
    · have HG : Hid (getM n zs = none) := getM_none (by unfold fitsG; rw [HC.out, HL.out]; exact decide_eq_false (fun e => by omega))
      have hNi : (0 : Int) < (N : Nat) := by omega
      go_wp2
      go_ret2
      rw [HG.out]
      exact ⟨_, rfl, Els.nil _, HB2.out⟩
    · obtain rfl : N = 0 := by omega
      have HG : Hid (getM n zs = some []) := by
        unfold Hid
        rw [getM_right (by unfold fitsG; rw [HC.out, HL.out]; decide), HC.out]
        rfl
      have HV3 : Hid (Octs w3 (.slice (some ⟨b, off, none⟩) 4 _) zs) := HV.out.kept HB2.out
      go_wp2_with fail
      refine (read_octs _ (zs.drop 4) _ (HV3.out.back (Nat.le_refl _) (by first | exact .inl rfl | exact .inr rfl)) (by rw [List.length_drop, HL.out]; decide)).mono ?_
      rintro e w4 ⟨q, rfl, hr4, hb4, hq4⟩
      have HB4 : Hid (Below w.heap.size w w4) := HB2.out.trans (hb4.mono HB2.out.size)
      clear hr4 hb4 hq4 HV3 HB2
      go_wp2_with (at_make; refine wpList_make_mds w4 rfl _ _ rfl [] 0 rfl rfl (by omega) ?_)
      intro w5 HP5 HB5 HG5
      have HB6 : Hid (Below w.heap.size w w5) := HB4.out.trans (HB5.out.mono HB4.out.size)
      have HE : Hid (Els encM 5 w5 (.slice (some ⟨w4.heap.size, 0, none⟩) 0 0) []) := HP5.out.els HG5.out rfl (by unfold maxLen; omega)
      clear HB4 HB5 HP5 HG5
      generalize w4.heap.size = G at *
      go_wp2_with fail
      refine wp_loop_rounds 1 ?_
      rw [rounds_succ]
      go_wp2_with fail
      refine (right11_any w5 _ [] n HE.out (by simp) (by simp)).mono ?_
      rintro e w8 ⟨rfl, hb8⟩
      rw [show rightM n [] = true from rfl]
      have HB8 : Hid (Below w.heap.size w w8) := HB6.out.trans (hb8.mono HB6.out.size)
      have HE8 : Hid (Els encM 5 w8 (.slice (some ⟨G, 0, none⟩) 0 0) []) := HE.out.kept hb8
      clear hb8 HE HB6
      go_wp2
      go_ret2
      rw [HG.out]
      exact ⟨_, rfl, HE8.out, HB8.out⟩

theorem get11_any (w : World) (n : Int) (v : Value) (zs : List Nat) (hv : Octs w v zs) (hl : zs.length ≤ 10000) :
    Calls Tryd.prog 9 #[.int .i64 n, v] w fun e w' => ∃ u, e = .returned (.tuple #[u, .int .i64 (ansC (getM n zs))]) ∧ Els encM 5 w' u ((getM n zs).getD []) ∧ Below w.heap.size w w' := by
  rcases (by omega : zs.length < 4 ∨ zs.length = 4 ∨ 4 < zs.length) with h | h | h
  · have hg : getM n zs = none := getM_none (by unfold fitsG; exact decide_eq_false (fun e => by omega))
    refine (get11_none w n v zs hv h).mono ?_
    rintro e w' ⟨rfl, hb⟩
    rw [hg]
    exact ⟨_, rfl, Els.nil _, hb⟩
  · obtain ⟨a, ca, rfl⟩ := hv.shape
    obtain ⟨b, off, rfl, _⟩ := hv.addr (by omega)
    rw [h] at hv ⊢
    exact get11_four w n b off ca zs hv
  · obtain ⟨a, ca, rfl⟩ := hv.shape
    obtain ⟨b, off, rfl, _⟩ := hv.addr (by omega)
    exact get11_some w n b off ca zs.length zs hv h hl
end Go.Proofs.YtfclhehpbniapaaDoor
