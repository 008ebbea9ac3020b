/- Contract of entry.Put: a list's octets. -/
import Derived.Test.YtfclhehpbniapaaDoorRefPut11
import Derived.Test.YtfclhehpbniapaaDoorWalkNum10
import Derived.Test.YtfclhehpbniapaaDoorWalkWriting4
import Derived.Test.YtfclhehpbniapaaDoorHeldMore
namespace Go.Proofs.YtfclhehpbniapaaDoor
open Go.RowKit
set_option linter.unusedVariables false

/-- What holds no octets and is not block p is as it was. -/
def Beside (p : Nat) (w w' : World) : Prop := ∀ X c T z, w.heap[X]? = some (.cells c T z) → T ≠ 5 → X ≠ p → w'.heap[X]? = some (.cells c T z)
theorem Beside.refl (p : Nat) (w : World) : Beside p w w := fun _ _ _ _ h _ _ => h
theorem Beside.trans {p : Nat} {a b c : World} (h : Beside p a b) (k : Beside p b c) : Beside p a c := fun X c T z hX hT hp => k X c T z (h X c T z hX hT hp) hT hp
theorem Beside.ofBelow {p : Nat} {w w' : World} (h : Below w.heap.size w w') : Beside p w w' := fun X c T z hX _ _ => (h.block X (lt_of_heap hX)).trans hX
theorem Beside.undrew {p : Nat} {w w' : World} (h : Beside p w.drew w') : Beside p w w' := h
theorem Beside.drew {p : Nat} {w w' : World} (h : Beside p w w') : Beside p w w'.drew := h
theorem IsWv.beside {base : Nat} {w W w1 : World} {p : Nat} {v v' : Value} {zs : List Nat} (h : IsWv base w p v zs) (hB : Below w.heap.size w W) (hg : W.grownBy w1 v.ownBlock) : Beside p w (w1.setCell ⟨p, 0, none⟩ v') := by
  intro X c T z hX hT hp
  have h1 : W.heap[X]? = some (.cells c T z) := (hB.block X (lt_of_heap hX)).trans hX
  have hne : v.ownBlock ≠ some X := by
    intro e
    rcases (h.kept hB).own.2 with ⟨rfl, _⟩ | ⟨g, cap, cur, rfl, hb, hgg, _⟩
    · simp [Value.ownBlock] at e
    · have : g = X := by simpa [Value.ownBlock] using e
      subst this
      rw [hgg] at h1
      simp only [Option.some.injEq, Obj.cells.injEq] at h1
      exact hT h1.2.1.symm
  have h2 : w1.heap[X]? = some (.cells c T z) := (hg.block X (lt_of_heap h1) (fun e => hne e.symm)).trans h1
  rw [← h2]
  exact Below.heap_setCell _ _ _ _ (fun e => hp e)

set_option maxHeartbeats 800000 in
theorem wnum_by {base : Nat} {w : World} {p : Nat} {zs : List Nat} (h : IsW base w p zs) (n m : Int) (hl : zs.length ≤ 100000) :
    Calls Tryd.prog 12 #[.pointer (some ⟨p, 0, none⟩), .int .i64 n, .int .i64 m] w fun e w' => e = .returned (.pointer (some ⟨p, 0, none⟩)) ∧ IsW base w' p (zs ++ octZ n (cl m 8)) ∧ Below base w w' ∧ Beside p w w' := by
  obtain ⟨i0, hi, hz0, hz1, hz2⟩ := info_parts Tryd.infoU8'
  obtain ⟨v, h⟩ := h
  have H : Hid (IsWv base w p v zs) := h
  obtain ⟨a, cap, rfl⟩ := own_shape h.own
  have c0 := cell_of_one h.head
  have HL : Hid ((octZ n (cl m 8)).length = cl m 8) := octZ_length _ _
  have HZ : Hid (∀ z ∈ octZ n (cl m 8), z < 256) := octZ_small _ _
  have hk := cl_le m 8
  have hlt := h.lt
  have hle := h.le
  clear h
  go_enter Tryd.func12, Tryd.ntmps12
  go_wp2
  go_region_law (first
    | (refine step_append_octs (by rfl) _ _ 24 (by rfl) base 5 i0 Tryd.underlying24 hi hz0 hz1 hz2 _ zs.length zs (by rfl) (H.out.kept HB1.out).own _ (octZ n (cl m 8)) (by rfl) HO1.out (by rw [HL.out]; omega) (by have := HB1.out.size; omega) ?_
       intro v2 w2 hown2 hg2
       have c2 := cell_of_one (H.out.headed HB1.out hg2)
       have f2 := free_of_one (H.out.headed HB1.out hg2)
       have R2 : Hid (IsW base (w2.setCell ⟨p, 0, none⟩ v2) p (zs ++ octZ n (cl m 8)) ∧ Below base w (w2.setCell ⟨p, 0, none⟩ v2)) := H.out.stored HB1.out hg2 hown2 rfl HZ.out
       have R3 : Hid (Beside p w (w2.setCell ⟨p, 0, none⟩ v2)) := H.out.beside HB1.out hg2
       obtain ⟨a2, cap2, e2⟩ := own_shape hown2
       subst e2
       clear hown2 hg2)
    | (go_simp; refine (lay_octs n m _).mono ?_; rintro e w1 ⟨v1, rfl, ho1, hb1⟩
       have HB1 : Hid (Below w.heap.size w w1) := below_undrew hb1
       have HO1 : Hid (Octs w1 v1 (octZ n (cl m 8))) := ho1
       have c1 : w1.cell? ⟨p, 0, none⟩ = some (.slice a zs.length cap) := (HB1.out.cell (p := ⟨p, 0, none⟩) hlt).trans c0
       clear hb1 ho1))
  all_goals go_wp2
  all_goals go_ret
  all_goals exact ⟨rfl, R2.out.1, R2.out.2, R3.out⟩

theorem cells5 {w : World} {X : Nat} {a b c d e : Value} {T : TypeId} (h : w.heap[X]? = some (.cells #[a, b, c, d, e] T (0, 0))) : w.cell? ⟨X, 0, none⟩ = some a ∧ w.cell? ⟨X, 1, none⟩ = some b ∧ w.cell? ⟨X, 2, none⟩ = some c ∧ w.cell? ⟨X, 3, none⟩ = some d ∧ w.cell? ⟨X, 4, none⟩ = some e := by
  refine ⟨?_, ?_, ?_, ?_, ?_⟩ <;> simp [World.cell?, h]
theorem wrapU {u : Nat} (h : u < 4294967296) : IntKind.i64.wrap (u : Int) = (u : Int) := by rw [IntKind.wrap_i64]; omega

set_option maxRecDepth 20000 in
set_option maxHeartbeats 2000000 in
theorem put11_any (w : World) (x : Value) (l : List Md) (hx : Els encM 5 w x l) (hu : ∀ m ∈ l, m.u < 4294967296) (hl0 : l.length ≤ 1000) :
    Calls Tryd.prog 10 #[x] w fun e w' => ∃ v, e = .returned v ∧ Octs w' v (putM l) ∧ Below w.heap.size w w' := by
  obtain ⟨a, ca, rfl⟩ := hx.shape
  obtain ⟨L, hn⟩ : ∃ L, L = l.length := ⟨_, rfl⟩
  rw [← hn] at hx hl0 ⊢
  have HN : Hid (L = l.length) := hn
  have HX : Hid (Els encM 5 w (.slice a L ca) l) := hx
  have HU : Hid (∀ m ∈ l, m.u < 4294967296) := hu
  clear hn hx hu
  go_enter Tryd.func10, Tryd.ntmps10
  go_wp2_with fail
  refine (write_new _).mono ?_
  rintro e w1 ⟨rfl, hw1, hb1⟩
  have HB1 : Hid (Below w.heap.size w w1) := hb1
  have HW1 : Hid (IsW w.heap.size w1 w.heap.size []) := hw1
  clear hb1 hw1
  go_wp2_with fail
  refine (wnum_any HW1.out (L : Nat) 4 (by decide)).mono ?_
  rintro e w2 ⟨rfl, hw2, hb2⟩
  have HP0 : Hid ([] ++ octZ (L : Nat) 4 = preM l 0) := by rw [HN.out]; simp [Hid, preM]
  rw [show cl 4 8 = 4 by decide, HP0.out] at hw2
  have HB2 : Hid (Below w.heap.size w w2) := HB1.out.trans hb2
  have HW2 : Hid (IsW w.heap.size w2 w.heap.size (preM l 0)) := hw2
  obtain ⟨P, hP⟩ : ∃ P, P = w.heap.size := ⟨_, rfl⟩
  rw [← hP] at HW2
  have HP : Hid (P = w.heap.size) := hP
  clear hw2 hb2 HB1 HW1 HP0
  go_wp2_with fail
  try rw [← hP]
  clear hP
  go_loopw [12] (fun i wr => ∃ k : Nat, i = .int .i64 (k : Nat) ∧ k ≤ L ∧ Hid (IsW P wr P (preM l k)) ∧ Hid (Below P w wr)) (fun i _ => L - (intOf i).toNat)
  case atStart => exact ⟨0, rfl, Nat.zero_le _, HW2.out, by rw [HP.out]; exact HB2.out⟩
  case round =>
    obtain ⟨k, rfl, hk, HW, HB⟩ := hrel
    clear HW2 HB2
    by_cases hlt : k < L
    · obtain ⟨b, off, rfl, hb, hc⟩ := (HX.out.kept (by rw [← HP.out]; exact HB.out)).md (by omega)
      obtain ⟨mh, mp, ms, mg, mu, hkk⟩ := md_at (xs := l) (j := k) (by rw [← HN.out]; exact hlt)
      obtain ⟨c0, c1, c2, c3, c4⟩ := hc k _ hkk
      have hmu : mu < 4294967296 := HU.out _ (List.mem_of_getElem? hkk)
      have hwu := wrapU hmu
      have HA : Hid (preM l (k + 1) = preM l k ++ octZ (numK (mh, mp)) 4 ++ octZ ms 4 ++ octZ mg 6 ++ octZ (mu : Nat) 4) := by
        unfold Hid
        rw [preM_succ hkk, recM]
        simp only [List.append_assoc, Md.k]
      have HL0 : Hid ((preM l k).length ≤ 90000) := by unfold Hid; rw [preM_length (by rw [← HN.out]; omega)]; omega
      have HNB : Hid (∀ W, Calls Tryd.prog 13 #[.agg #[.int .i64 mh, .int .i64 mp]] W fun e w' => e = .returned (.int .i64 (numK (mh, mp))) ∧ Below W.heap.size W w') := fun W => number_any mh mp W
      generalize numK (mh, mp) = N at *
      generalize hA0 : preM l k = A0 at *
      obtain ⟨A1, hA1⟩ : ∃ A, A = A0 ++ octZ N 4 := ⟨_, rfl⟩
      obtain ⟨A2, hA2⟩ : ∃ A, A = A1 ++ octZ ms 4 := ⟨_, rfl⟩
      obtain ⟨A3, hA3⟩ : ∃ A, A = A2 ++ octZ mg 6 := ⟨_, rfl⟩
      obtain ⟨A4, hA4⟩ : ∃ A, A = A3 ++ octZ (mu : Nat) 4 := ⟨_, rfl⟩
      have HL1 : Hid (A1.length ≤ 90004) := by have := HL0.out; unfold Hid; rw [hA1, List.length_append, octZ_length]; omega
      have HL2 : Hid (A2.length ≤ 90008) := by have := HL1.out; unfold Hid; rw [hA2, List.length_append, octZ_length]; omega
      have HL3 : Hid (A3.length ≤ 90014) := by have := HL2.out; unfold Hid; rw [hA3, List.length_append, octZ_length]; omega
      have HAA : Hid (preM l (k + 1) = A4) := by unfold Hid; rw [HA.out, hA4, hA3, hA2, hA1]
      have HA1 : Hid (A0 ++ octZ N 4 = A1) := hA1.symm
      have HA2 : Hid (A1 ++ octZ ms 4 = A2) := hA2.symm
      have HA3 : Hid (A2 ++ octZ mg 6 = A3) := hA3.symm
      have HA4 : Hid (A3 ++ octZ (mu : Nat) 4 = A4) := hA4.symm
      clear hA1 hA2 hA3 hA4 HA hA0 hb hc hkk
      obtain ⟨W0, hW⟩ : ∃ W0, W0 = wr.alloc (.cells #[.int .i64 mh, .int .i64 mp, .int .i64 ms, .int .i64 mg, .int .u32 (mu : Nat)] 51) := ⟨_, rfl⟩
      obtain ⟨X, hXX⟩ : ∃ X, X = wr.heap.size := ⟨_, rfl⟩
      have HG0 : Hid (W0.heap[X]? = some (.cells #[.int .i64 mh, .int .i64 mp, .int .i64 ms, .int .i64 mg, .int .u32 (mu : Nat)] 51 (0, 0))) := by rw [hW, hXX]; exact heap_alloc_new _ _
      have HWP : Hid (P < X) := by
        obtain ⟨v, hv⟩ := HW.out
        rw [hXX]; exact hv.lt
      have hn5 := cells5 HG0.out
      obtain ⟨d0, d1, d2, d3, d4⟩ := hn5
      have HB0 : Hid (Below P w W0) := by rw [hW]; exact HB.out.alloc (by have := HWP.out; rw [hXX] at this; omega) _
      have HW0 : Hid (IsW P W0 P A0) := by
        rw [hW]
        obtain ⟨v, hv⟩ := HW.out
        exact ⟨v, hv.kept ((Below.refl _ _).alloc (Nat.le_refl _) _)⟩
      go_wp2_with fail
      rw [← hW]
      try rw [← hXX]
      clear hW hXX HW HB c0 c1 c2 c3 c4
      have HS : Hid (∀ W, Beside P W0 W → W.cell? ⟨X, 0, none⟩ = some (.int .i64 mh) ∧ W.cell? ⟨X, 1, none⟩ = some (.int .i64 mp) ∧ W.cell? ⟨X, 2, none⟩ = some (.int .i64 ms) ∧ W.cell? ⟨X, 3, none⟩ = some (.int .i64 mg) ∧ W.cell? ⟨X, 4, none⟩ = some (.int .u32 (mu : Nat))) := fun W hW => cells5 (hW X _ _ _ HG0.out (by decide) (by have := HWP.out; omega))
      clear d0 d1 d2 d3 d4
      go_region_held3 (fun w' => w'.cell? ⟨X, 0, none⟩ = some (.int .i64 mh) ∧ w'.cell? ⟨X, 1, none⟩ = some (.int .i64 mp) ∧ w'.cell? ⟨X, 2, none⟩ = some (.int .i64 ms) ∧ w'.cell? ⟨X, 3, none⟩ = some (.int .i64 mg) ∧ w'.cell? ⟨X, 4, none⟩ = some (.int .u32 (mu : Nat)))
        (first | exact HS.out _ (Beside.refl _ _).drew | exact HS.out _ HK7.out | exact HS.out _ HK6.out | exact HS.out _ HK5.out | exact HS.out _ HK4.out | exact HS.out _ HK3.out) (first
        | (go_at_call 12; refine (wnum_by HW6.out (mu : Nat) 4 (by have := HL3.out; omega)).mono ?_; rintro e w7 ⟨rfl, hw7, hb7, hk7⟩
           rw [show cl 4 8 = 4 by decide, HA4.out] at hw7
           have HB7 : Hid (Below P w w7) := HB6.out.trans hb7
           have HW7 : Hid (IsW P w7 P A4) := hw7
           have HK7 : Hid (Beside P W0 w7) := HK6.out.trans hk7
           clear hw7 hb7 hk7)
        | (go_at_call 12; refine (wnum_by HW5.out mg 6 (by have := HL2.out; omega)).mono ?_; rintro e w6 ⟨rfl, hw6, hb6, hk6⟩
           rw [show cl 6 8 = 6 by decide, HA3.out] at hw6
           have HB6 : Hid (Below P w w6) := HB5.out.trans hb6
           have HW6 : Hid (IsW P w6 P A3) := hw6
           have HK6 : Hid (Beside P W0 w6) := HK5.out.trans hk6
           clear hw6 hb6 hk6)
        | (go_at_call 12; refine (wnum_by HW4.out ms 4 (by have := HL1.out; omega)).mono ?_; rintro e w5 ⟨rfl, hw5, hb5, hk5⟩
           rw [show cl 4 8 = 4 by decide, HA2.out] at hw5
           have HB5 : Hid (Below P w w5) := HB4.out.trans hb5
           have HW5 : Hid (IsW P w5 P A2) := hw5
           have HK5 : Hid (Beside P W0 w5) := HK4.out.trans hk5
           clear hw5 hb5 hk5)
        | (go_at_call 12; refine (wnum_by HW3.out N 4 (by have := HL0.out; omega)).mono ?_; rintro e w4 ⟨rfl, hw4, hb4, hk4⟩
           rw [show cl 4 8 = 4 by decide, HA1.out] at hw4
           have HB4 : Hid (Below P w w4) := HB3.out.trans hb4
           have HW4 : Hid (IsW P w4 P A1) := hw4
           have HK4 : Hid (Beside P W0 w4) := HK3.out.trans hk4
           clear hw4 hb4 hk4)
        | (go_at_call 13; refine (HNB.out _).mono ?_; rintro e w3 ⟨rfl, hb3⟩
           have hb3' : Below W0.heap.size W0 w3 := below_undrew hb3
           have HK3 : Hid (Beside P W0 w3) := Beside.ofBelow hb3'
           have HB3 : Hid (Below P w w3) := HB0.out.trans (hb3'.mono (Nat.le_of_lt (by have h1 := HWP.out; have h2 := lt_of_heap HG0.out; omega)))
           have HW3 : Hid (IsW P w3 P A0) := by
             obtain ⟨v, hv⟩ := HW0.out
             exact ⟨v, hv.kept hb3'⟩
           clear hb3 hb3'))
      all_goals
        go_wp2_with fail
        go_roundw
        case rel => exact ⟨k + 1, by go_num, by omega, by rw [HAA.out]; exact HW7.out, HB7.out⟩
        case measure => simp [intOf]; omega
    · have HE : Hid (preM l k = putM l) := by
        have : k = L := by omega
        unfold Hid preM putM
        rw [List.take_of_length_le (by rw [this, HN.out]; exact Nat.le_refl _)]
      have HW9 : Hid (IsW P wr P (putM l)) := by rw [← HE.out]; exact HW.out
      have HLP : Hid ((putM l).length ≤ 100000) := by unfold Hid; rw [putM_length, ← HN.out]; omega
      go_wp2_with fail
      refine (wbytes_any HW9.out HLP.out).mono ?_
      rintro e w9 ⟨v9, rfl, ho9, hb9⟩
      have HO9 : Hid (Octs w9 v9 (putM l)) := ho9
      have HB9 : Hid (Below P w w9) := HB.out.trans (hb9.mono (by obtain ⟨v, hv⟩ := HW9.out; exact Nat.le_of_lt hv.lt))
      clear ho9 hb9
      go_wp2_with fail
      go_ret
      exact ⟨_, rfl, HO9.out, by rw [← HP.out]; exact HB9.out⟩
end Go.Proofs.YtfclhehpbniapaaDoor
