/- Sort of package key: the keys of the map that Count makes, sorted. -/
import Derived.Test.YtfclhehpbniapaaCount10
import Derived.Test.YtfclhehpbniapaaOrder10
namespace Go.Proofs.Ytfclhehpbniapaa
open Go.RowKit Go.Maps Go.Sort Go.Shelf Go.Lib
set_option linter.unusedVariables false
set_option maxRecDepth 20000

/-! ### What the sort leaves -/
theorem heap_sorted (w : World) (blk off n : Nat) (d : Array Ky) (os : Array Obj) : w.grownBy (sortWorldK encKy 2 w blk off n d os) (some blk) := by
  refine ⟨rfl, rfl, rfl, ?_, fun i hi hne => ?_⟩
  · simp [sortWorldK, putRowK, putRow, mapBlock, Sort.grow]
  · have hne' : blk ≠ i := fun e => hne (by rw [e])
    simp only [sortWorldK, Sort.grow, putRowK, putRow, mapBlock]
    rw [Array.getElem?_append_left (by simpa using hi), Array.getElem?_modify, if_neg hne']
    rfl
theorem flat_at (ks : List Ky) (j : Nat) (hj : j < ks.length * 2) : (flatK encKy 2 ks.toArray)[j]! = (kcells ks)[j]?.getD undef := by
  rw [get_flatK _ _ _ _ (by simpa using hj)]
  have h1 : j / 2 < ks.length := by omega
  have hk : ks[j / 2]? = some ks[j / 2] := List.getElem?_eq_getElem h1
  have hg : (ks.toArray)[j / 2]! = ks[j / 2] := by simp [h1]
  have hc := kcells_at ks (j / 2) _ hk
  rw [hg]
  rcases Nat.mod_two_eq_zero_or_one j with h | h
  · have e : j = j / 2 * 2 := by omega
    rw [h]
    have := hc.1
    rw [← e] at this
    rw [this]
    rfl
  · have e : j = j / 2 * 2 + 1 := by omega
    rw [h]
    have := hc.2
    rw [← e] at this
    rw [this]
    rfl
theorem holds_own {w : World} {g n cap : Nat} {cur : Array Value} {e : TypeId} {ks : List Ky} (hb : w.heap[g]? = some (.cells cur e (0, 0))) (hl : ks.length = n) (h4 : cur.toList.take (n * 2) = kcells ks) : HoldsK encKy 2 w g 0 ks.toArray := by
  intro j hj
  have hj' : j < ks.length * 2 := by simpa using hj
  have hlen := kcells_length ks
  have hat : cur[j]? = some ((kcells ks)[j]?.getD undef) := by
    have h5 : (kcells ks)[j]? = some (kcells ks)[j] := List.getElem?_eq_getElem (by omega)
    rw [h5, Option.getD_some, ← h5, ← h4, List.getElem?_take_of_lt (by omega), Array.getElem?_toList]
  refine ⟨?_, ?_⟩
  · show w.cell? ⟨g, 0 + j, none⟩ = some (id (flatK encKy 2 ks.toArray)[j]!)
    rw [flat_at ks j hj', Nat.zero_add]
    simp [World.cell?, hb, hat]
  · simp [World.frozen?, hb]
theorem keys_held {w : World} {g cap : Nat} {ks : List Ky} (h : HoldsK encKy 2 w g 0 ks.toArray) (hg : g < w.heap.size) (hk : ∀ k ∈ ks, KI k) (h1 : ks.length ≤ cap) (h2 : cap ≤ maxLen) : Keys w (.slice (some ⟨g, 0, none⟩) ks.length cap) ks := by
  refine ⟨hk, Nat.le_trans h1 h2, _, cap, rfl, h1, h2, .inr ⟨_, rfl, .inr ⟨g, 0, rfl, hg, fun j k hj => ?_⟩⟩⟩
  have hjl : j < ks.length := (List.getElem?_eq_some_iff.1 hj).1
  have hget : (ks.toArray)[j]! = k := by
    rw [List.getElem?_eq_getElem hjl] at hj
    simpa [hjl] using hj
  have a := h.cell (i := j) (c := 0) (by simpa using hjl) (by decide)
  have b := h.cell (i := j) (c := 1) (by simpa using hjl) (by decide)
  rw [hget] at a b
  exact ⟨a.1, b.1⟩

/-! ### The order of a sort, and the document's -/
theorem merge_is {ss ks : List Ky} (hn : ss.Nodup) (hm : ∀ k, k ∈ ss ↔ k ∈ ks) : (ss.mergeSort fun x y => !(ltOf cmpK) y x) = sortR ks := by
  have hp := List.mergeSort_perm ss (fun x y => !(ltOf cmpK) y x)
  have ht : ∀ a b c : Ky, (!(ltOf cmpK) b a) = true → (!(ltOf cmpK) c b) = true → (!(ltOf cmpK) c a) = true := by
    intro a b c h1 h2
    rw [ltOf_cmpK] at *
    simp only [Bool.not_eq_true', decide_eq_false_iff_not] at *
    unfold KLt at *
    omega
  have hto : ∀ a b : Ky, ((!(ltOf cmpK) b a) || (!(ltOf cmpK) a b)) = true := by
    intro a b
    rw [ltOf_cmpK, ltOf_cmpK, Bool.or_eq_true]
    simp only [Bool.not_eq_true', decide_eq_false_iff_not]
    unfold KLt
    omega
  have hs := List.pairwise_mergeSort (le := fun x y => !(ltOf cmpK) y x) ht hto ss
  refine rises_same ?_ (sortR_rises ks) fun k => ?_
  · have hnd : (ss.mergeSort fun x y => !(ltOf cmpK) y x).Nodup := hp.nodup_iff.2 hn
    refine (hs.and hnd).imp fun {a b} h => ?_
    obtain ⟨h1, h2⟩ := h
    rw [ltOf_cmpK] at h1
    simp only [Bool.not_eq_true', decide_eq_false_iff_not] at h1
    exact klt_or (fun e => h2 e.symm) h1
  · rw [hp.mem_iff, hm, sortR_mem]

/-! ### The keys met so far -/
structure Met10 (ks : List Ky) (left : Lit → Bool) (ss : List Ky) : Prop where
  nodup : ss.Nodup
  mem : ∀ k, KI k → (k ∈ ss ↔ k ∈ ks ∧ left (klit k) = false)
  fit : ∀ k ∈ ss, KI k
theorem Met10.start {D : Dw} {ks : List Ky} (h : CountD D ks) : Met10 ks (Maps.has D) [] :=
  ⟨List.nodup_nil, fun k hk => by rw [h.has k hk]; simp, by simp⟩
theorem Met10.step {ks : List Ky} {left : Lit → Bool} {ss : List Ky} (h : Met10 ks left ss) {x : Ky} (hx : KI x) (hl : left (klit x) = true) (hin : x ∈ ks) : Met10 ks (fun z => left z && !z.sameKey (klit x)) (ss ++ [x]) := by
  have hno : x ∉ ss := fun h' => by have := ((h.mem x hx).1 h').2; rw [hl] at this; cases this
  refine ⟨?_, fun k hk => ?_, fun k hk => ?_⟩
  · rw [List.nodup_append]
    exact ⟨h.nodup, by simp, fun a ha b hb => by rw [List.mem_singleton.1 hb]; exact fun e => hno (e ▸ ha)⟩
  · rw [List.mem_append, List.mem_singleton, h.mem k hk, klit_same hk hx]
    by_cases e : k = x
    · subst e; simp [hin]
    · simp [e]
  · rw [List.mem_append, List.mem_singleton] at hk
    exact hk.elim (h.fit k) (fun e => e ▸ hx)
theorem Met10.all {ks : List Ky} {left : Lit → Bool} {ss : List Ky} (h : Met10 ks left ss) (hk : ∀ k ∈ ks, KI k) (hl : ∀ l, left l = false) : ∀ k, k ∈ ss ↔ k ∈ ks :=
  fun k => ⟨fun h' => ((h.mem k (h.fit k h')).1 h').1, fun h' => (h.mem k (hk k h')).2 ⟨h', hl _⟩⟩

theorem own_base {w : World} {b b' n z : Nat} {e : TypeId} {v : Value} {xs : List Value} (h : w.ownsRow b e z v n xs) (hb : b' ≤ b) : w.ownsRow b' e z v n xs := by
  refine ⟨h.1, ?_⟩
  rcases h.2 with h2 | ⟨g, cap, cur, h2, h3, h4⟩
  · exact .inl h2
  · exact .inr ⟨g, cap, cur, h2, Nat.le_trans hb h3, h4⟩
theorem Try.infoK10 : (Try.prog.info? 36).map (fun i => (i.zero, i.size, i.bytes)) = some (some (.agg #[.int .i64 0, .int .i64 0]), 2, 16) := by kernel_rfl
theorem info_k : ∃ i, Try.prog.info? 36 = some i ∧ i.zero = some (.agg #[.int .i64 0, .int .i64 0]) ∧ i.size = 2 ∧ i.bytes = 16 := by
  have h := Try.infoK10
  cases hi : Try.prog.info? 36 with
  | none => rw [hi] at h; simp at h
  | some i =>
    rw [hi] at h
    simp only [Option.map_some, Option.some.injEq, Prod.mk.injEq] at h
    exact ⟨i, rfl, h.1, h.2.1, h.2.2⟩
theorem keys_two {w : World} {k : Ky} (o : Obj) (hz : KI k) (e : TypeId) : Keys ((w.alloc o).alloc (.cells #[.int .i64 k.1, .int .i64 k.2] e)) (.slice (some ⟨w.heap.size + 1, 0, none⟩) 1 1) [k] := by
  have := Keys.one (w := w.alloc o) (e := e) hz
  have e1 : (w.alloc o).heap.size = w.heap.size + 1 := by simp
  rwa [e1] at this
theorem invK10 (key : Value) (kl : Lit) (h : keyOf Try.prog 36 key = some kl) : ∃ x : Ky, key = .agg #[.int .i64 x.1, .int .i64 x.2] := by
  obtain ⟨x, _, e, _⟩ := keyOf_inv h
  exact ⟨x, e⟩
theorem invV10 (v : Value) (y : Dw × List MemPlace) (h : plainElem Try.prog 3 v = some y) : ∃ c, v = .int .i64 c := by
  obtain ⟨c, rfl, _⟩ := plainElem_int_inv Try.underlying3 h
  exact ⟨c, rfl⟩
set_option maxRecDepth 20000 in
set_option maxHeartbeats 2000000 in
theorem sort_any (w : World) (v : Value) (ks : List Ky) (hv : Keys w v ks) (hl : ks.length ≤ 1000) :
    Calls Try.prog 45 #[v] w fun e w' => ∃ u, e = .returned u ∧ Keys w' u (sortR ks) ∧ Below w.heap.size w w' ∧ ∀ g, u.ownBlock = some g → w.heap.size ≤ g := by
  have HC : Hid (Calls Try.prog 48 #[v] w fun e w' => e = .returned (.map (some w.heap.size)) ∧ MapAt w' w.heap.size ks ∧ Below w.heap.size w w') := count_any w v ks hv hl
  have HK : Hid (∀ k ∈ ks, KI k) := hv.1
  have HL : Hid (ks.length ≤ 1000) := hl
  obtain ⟨i0, hi, hz0, hz1, hz2⟩ := info_k
  clear hv hl
  go_enter Try.func45, Try.ntmps45
  go_wp2_with fail
  refine HC.out.mono ?_
  rintro e w1 ⟨rfl, ⟨D, hown, hD⟩, hB⟩
  have HB1 : Hid (Below w.heap.size w w1) := hB
  have HD : Hid (CountD D ks) := hD
  have hlt := hown.lt
  have HSZ : Hid (w.heap.size < w1.heap.size) := hlt
  clear hB hD HC hlt
  generalize hX : w.heap.size = X at *
  go_wp2_with (first
    | (at_range; refine wpList_range_own _ rfl _ 81 rfl 36 3 lawK Try.underlying81 _ X _ _ rfl hown ?_; intro w0 hrg0 hg0 hs0)
    | go_in)
  go_frame
  generalize hR : w1.heap.size = R at *
  go_loopw [3] (fun v wr => ∃ (left : Lit → Bool) (cnt : Nat) (ss : List Ky), wr.ranges Try.prog 36 (plainElem Try.prog 3) X R ks.length D left cnt ∧ ss.length + cnt ≤ Maps.size D ∧
      wr.ownsRow (R + 1) 36 2 v ss.length (kcells ss) ∧ Hid (Met10 ks left ss) ∧ Hid (Below X w wr) ∧ R + 1 ≤ wr.heap.size)
    (fun _ wr => wr.rangeLeft X R)
  case atStart =>
    exact ⟨_, _, [], hrg0, by simp, World.ownsRow_nil _ _ _ _, Met10.start HD.out, HB1.out.grown hg0 (by have := HSZ.out; omega) (fun j hj => by cases hj), by omega⟩
  case round =>
    obtain ⟨left, cnt, ss, hrg, hcs, hrow, HM, HB, hsz⟩ := hrel
    have HSD : Hid (Maps.size D ≤ 1000) := by
      unfold Hid
      rw [HD.out.size]
      exact Nat.le_trans (sortR_len ks) HL.out
    have HRG : Hid (wr.ranges Try.prog 36 (plainElem Try.prog 3) X R ks.length D left cnt) := hrg
    have HRO : Hid (wr.ownsRow (R + 1) 36 2 u3 ss.length (kcells ss)) := hrow
    have HCS : Hid (ss.length + cnt ≤ Maps.size D) := hcs
    have HSW : Hid (R + 1 ≤ wr.heap.size) := hsz
    have HD0 : Hid (w1.ownsMap Try.prog 36 (plainElem Try.prog 3) X ks.length D) := hown
    clear hrg hrow hcs hsz hown hrg0 hg0 hs0
    go_wp2_with (first
      | (at_next; refine wpList_next_ranges _ rfl _ rfl 36 lawK (plainElem Try.prog 3) (fun x : Ky => Value.agg #[.int .i64 x.1, .int .i64 x.2]) (Value.int .i64) invK10 invV10 X R ks.length _ _ _ rfl HRG.out ?_ ?_)
      | go_in)
    · intro hc0 hl0
      have HALL : Hid (∀ k, k ∈ ss ↔ k ∈ ks) := HM.out.all HK.out hl0
      have HIS : Hid ((ss.mergeSort fun x y => !(ltOf cmpK) y x) = sortR ks) := merge_is HM.out.nodup HALL.out
      clear hc0 hl0
      rcases HRO.out.2 with ⟨rfl, hn0⟩ | ⟨g, cap, cur, rfl, hbase, hb, h1, h2, h3, h4⟩
      · have hss : ss = [] := List.eq_nil_of_length_eq_zero hn0
        have HS0 : Hid (sortR ks = []) := by
          have := HIS.out
          rw [hss] at this
          rw [← this]
          simp [Hid]
        have HNO := sortFunc_none none 0 (.func (.func 50) #[] #[]) wr
        clear hss hn0 HIS
        go_wp2_with fail
        refine HNO.mono ?_
        rintro e w5 ⟨rfl, rfl⟩
        go_wp2
        go_ret
        exact ⟨_, rfl, by rw [HS0.out]; exact Keys.nil _, by rw [← hX] at HB; exact HB.out, fun g hg => by simp [Value.ownBlock] at hg⟩
      · have hH : HoldsK encKy 2 wr g 0 ss.toArray := holds_own (cap := cap) hb rfl h4
        have hgl : g < wr.heap.size := (Array.getElem?_eq_some_iff.1 hb).1
        have hlen : ss.length ≤ 1000 := by have := HCS.out; have := HSD.out; omega
        have HF : Hid (Calls Try.prog 49 #[.slice (some ⟨g, 0, none⟩) ss.length cap, .func (.func 50) #[] #[]] wr fun e w' => e = .returned (.tuple #[]) ∧ ∃ n os, w' = sortWorldK encKy 2 wr g 0 n (sortR ks).toArray os) := by
          have := sortFunc_any g 0 cap ss.toArray wr hH hgl (by simp; omega)
          rw [List.size_toArray] at this
          rw [← HIS.out]
          exact this
        have HLE : Hid ((sortR ks).length = ss.length) := by
          rw [← HIS.out]
          exact List.length_mergeSort _
        have HE : Hid (∀ n os, Keys (sortWorldK encKy 2 wr g 0 n (sortR ks).toArray os) (.slice (some ⟨g, 0, none⟩) ss.length cap) (sortR ks) ∧ Below X w (sortWorldK encKy 2 wr g 0 n (sortR ks).toArray os)) := by
          intro n os
          have hgr := heap_sorted wr g 0 n (sortR ks).toArray os
          refine ⟨?_, HB.out.grown hgr (by have := HSW.out; have := HSZ.out; omega) (fun j hj => by cases hj; have := HSZ.out; omega)⟩
          have hh : HoldsK encKy 2 (sortWorldK encKy 2 wr g 0 n (sortR ks).toArray os) g 0 (sortR ks).toArray :=
            SWK.holds (w0 := wr) (d0 := ss.toArray) ⟨n, os, rfl⟩ hgl hH (by simp [HLE.out])
          have := keys_held (cap := cap) hh (Nat.lt_of_lt_of_le hgl hgr.size) (fun k hk => HK.out k (sortR_mem.1 hk)) (by rw [HLE.out]; exact h1) h2
          rwa [HLE.out] at this
        have HGB : Hid (R + 1 ≤ g) := hbase
        clear hH hb h1 h2 h3 h4 hgl hlen HALL HIS hbase
        go_wp2_with fail
        refine HF.out.mono ?_
        rintro e w5 ⟨rfl, n, os, rfl⟩
        have HE2 := HE.out n os
        generalize sortWorldK encKy 2 wr g 0 n (sortR ks).toArray os = w5 at *
        go_wp2
        go_ret
        refine ⟨_, rfl, HE2.1, by rw [← hX] at HE2; exact HE2.2, fun g' hg => ?_⟩
        have hg3 : g = g' := by simpa [Value.ownBlock] using hg
        have := HGB.out
        have := HSZ.out
        omega
    · intro h p c kl yd yp w2 cnt2 hkey hlk hv hat hrg2 hlt hg2 hs2 hen
      obtain ⟨x, hx', ex, rfl⟩ := keyOf_inv hkey
      obtain ⟨h', p'⟩ := x
      simp only [Value.agg.injEq, Array.mk.injEq, List.cons.injEq, Value.int.injEq, true_and, and_true] at ex
      obtain ⟨rfl, rfl⟩ := ex
      have HIN : Hid ((h, p) ∈ ks) := by
        have h1 := Maps.has_true_of_atKey hat
        rw [HD.out.has (h, p) hx'] at h1
        exact (of_decide_eq_true h1 : (h, p) ∈ ks)
      have HM2 : Hid (Met10 ks (fun z => left z && !z.sameKey (klit (h, p))) (ss ++ [(h, p)])) := HM.out.step hx' hlk HIN.out
      have HX : Hid (KI (h, p)) := hx'
      have hne2 : u3.ownBlock ≠ some R := fun e => by have := (HRO.out.lt R e).1; omega
      have HRO2 : Hid (w2.ownsRow (R + 1) 36 2 u3 ss.length (kcells ss)) := HRO.out.kept hg2 (Or.inr hne2)
      have HB2 : Hid (Below X w w2) := HB.out.grown hg2 (by have := HSW.out; have := HSZ.out; omega) (fun j hj => by cases hj; have := HSZ.out; omega)
      have HS2 : Hid (R + 1 ≤ w2.heap.size) := Nat.le_trans HSW.out hg2.size
      have HRG2 : Hid (w2.ranges Try.prog 36 (plainElem Try.prog 3) X R ks.length D (fun z => left z && !z.sameKey (klit (h, p))) cnt2) := hrg2
      have HLT : Hid (cnt2 < cnt) := hlt
      have HLB : Hid (u3.ownBlock ≠ some R ∧ u3.ownBlock ≠ some X) := ⟨hne2, fun e => by have := (HRO.out.lt X e).1; have := HSZ.out; omega⟩
      clear hkey hlk hv hat hrg2 hlt hg2 hs2 hx' HM HRO HB HSW HIN hne2
      have HK1 : Hid (Keys ((w2.alloc (.cells #[.int .i64 h, .int .i64 p] 36)).alloc (.cells #[.int .i64 h, .int .i64 p] 36)) (.slice (some ⟨w2.heap.size + 1, 0, none⟩) 1 1) [(h, p)]) := keys_two (k := (h, p)) _ HX.out _
      have HBa : Hid (Below X w ((w2.alloc (.cells #[.int .i64 h, .int .i64 p] 36)).alloc (.cells #[.int .i64 h, .int .i64 p] 36))) := (HB2.out.alloc (by have := HS2.out; have := HSZ.out; omega) _).alloc (by have := HS2.out; have := HSZ.out; simp; omega) _
      have HRa : Hid (((w2.alloc (.cells #[.int .i64 h, .int .i64 p] 36)).alloc (.cells #[.int .i64 h, .int .i64 p] 36)).ranges Try.prog 36 (plainElem Try.prog 3) X R ks.length D (fun z => left z && !z.sameKey (klit (h, p))) cnt2) := (HRG2.out.alloc _).alloc _
      go_wp2_with (first
        | (at_builtin; refine wpList_append_keys _ rfl _ _ 34 (by rfl) (R + 1) 36 i0 Try.underlying34 hi hz0 hz1 hz2 u3 ss.length ss (by rfl) ((HRO2.out.alloc _).alloc _) (.slice (some ⟨w2.heap.size + 1, 0, none⟩) 1 1) [(h, p)] (by rfl) HK1.out (by have := HCS.out; have := HSD.out; simp; omega) (by have := HS2.out; simp; omega) ?_; intro v5 w5 hown5 hg5 hat5; go_frame)
        | go_in)
      have HRG5 : Hid (w5.ranges Try.prog 36 (plainElem Try.prog 3) X R ks.length D (fun z => left z && !z.sameKey (klit (h, p))) cnt2) := HRa.out.kept hg5 (fun e => HLB.out.2 e.symm) (fun e => HLB.out.1 e.symm)
      have HB5 : Hid (Below X w w5) := HBa.out.grown hg5 (by have := HS2.out; have := HSZ.out; simp; omega) (fun j hj => by have := (HRO2.out.lt j hj).1; have := HSZ.out; omega)
      have hm1 := HRG5.out.left_eq
      have hm2 := HRG.out.left_eq
      have HS5 : Hid (R + 1 ≤ w5.heap.size) := Nat.le_trans (by have := HS2.out; simp; omega) hg5.size
      go_roundw
      case rel =>
        exact ⟨_, cnt2, ss ++ [(h, p)], HRG5.out, by have := HCS.out; have := HLT.out; simp; omega, by simpa using hown5, HM2.out, HB5.out, HS5.out⟩
      case measure => rw [hm1, hm2]; exact HLT.out
end Go.Proofs.Ytfclhehpbniapaa
