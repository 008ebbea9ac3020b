/- Contract of the laws' 'same', of a part and itself; how a part that came in by value reads. -/
import Derived.Test.YtndeknkfljnjoaaDoorWalkRefJoin6
import Derived.OpenShut
import Derived.WalkKit
import Derived.ProofKit
namespace Go.Proofs.YtndeknkfljnjoaaDoor
open Go.ChangeShapes Go.WideShapes Go.ChangeAt Go.RowKit
set_option linter.unusedVariables false

set_option maxHeartbeats 400000 in
theorem same6 (p : Part) (v u : Value) (w : World) (hv : Octs w v p.data) (hu : Octs w u p.data) : Calls Tryd.prog 11 #[pval p v, pval p u] w fun e w' => e = .returned (.bool true) ∧ Below w.heap.size w w' := by
  obtain ⟨a, cap, rfl⟩ := hv.shape
  obtain ⟨b, cup, rfl⟩ := hu.shape
  have W2 : Hid (Below w.heap.size w ((w.alloc (.cells #[.bool p.foot, .int .i64 p.epoch, .int .i64 p.number, .int .i64 p.index, .slice a p.data.length cap] 24)).alloc (.cells #[.bool p.foot, .int .i64 p.epoch, .int .i64 p.number, .int .i64 p.index, .slice b p.data.length cup] 24))) := ((Below.refl _ _).alloc (Nat.le_refl _) _).alloc (by simp) _
  have c1 : (convert 22 9 (.slice a p.data.length cap)).run Tryd.prog ((w.alloc (.cells #[.bool p.foot, .int .i64 p.epoch, .int .i64 p.number, .int .i64 p.index, .slice a p.data.length cap] 24)).alloc (.cells #[.bool p.foot, .int .i64 p.epoch, .int .i64 p.number, .int .i64 p.index, .slice b p.data.length cup] 24)) = .ok (.string (strN p.data)) ((w.alloc (.cells #[.bool p.foot, .int .i64 p.epoch, .int .i64 p.number, .int .i64 p.index, .slice a p.data.length cap] 24)).alloc (.cells #[.bool p.foot, .int .i64 p.epoch, .int .i64 p.number, .int .i64 p.index, .slice b p.data.length cup] 24)) := conv_octs (P := Tryd.prog) ((hv.alloc _).alloc _) _ _ _ Tryd.underlying22 Tryd.underlying5 Tryd.underlying9
  have c2 : (convert 22 9 (.slice b p.data.length cup)).run Tryd.prog ((w.alloc (.cells #[.bool p.foot, .int .i64 p.epoch, .int .i64 p.number, .int .i64 p.index, .slice a p.data.length cap] 24)).alloc (.cells #[.bool p.foot, .int .i64 p.epoch, .int .i64 p.number, .int .i64 p.index, .slice b p.data.length cup] 24)) = .ok (.string (strN p.data)) ((w.alloc (.cells #[.bool p.foot, .int .i64 p.epoch, .int .i64 p.number, .int .i64 p.index, .slice a p.data.length cap] 24)).alloc (.cells #[.bool p.foot, .int .i64 p.epoch, .int .i64 p.number, .int .i64 p.index, .slice b p.data.length cup] 24)) := conv_octs (P := Tryd.prog) ((hu.alloc _).alloc _) _ _ _ Tryd.underlying22 Tryd.underlying5 Tryd.underlying9
  clear hv hu
  go_enter Tryd.func11, Tryd.ntmps11
  go_wp2
  go_ret
  exact ⟨rfl, W2.out⟩

/-! ### A part that came in by value -/
theorem array5 {α : Type} {cs : Array α} (h : cs.size = 5) : ∃ c0 c1 c2 c3 c4, cs = #[c0, c1, c2, c3, c4] := by
  obtain ⟨l⟩ := cs
  match l, h with
  | [c0, c1, c2, c3, c4], _ => exact ⟨c0, c1, c2, c3, c4, rfl⟩
theorem field_int6 {H : Type} {enc : TypeId × Value → H} {P : Program} {w : World} {base : Nat} {spare : Nat → Bool} {held : Bool} {n : Nat} {t : TypeId} {k : IntKind} {cs : List Value} {x : Option (DataW H × List MemPlace)} {c : Value}
    (hu : P.underlying t = some (.int k)) (h : DataW.trod enc P w base spare held n t cs = x) (hx : x.isSome = true) (hc : cs = [c]) : ∃ a, c = .int k a ∧ (Lit.int k a).wf = true := by
  obtain ⟨y, rfl⟩ := Option.isSome_iff_exists.1 hx
  subst hc
  obtain ⟨a, ea, _, wa⟩ := DataW.trod_int hu h
  simp at ea
  exact ⟨a, ea, wa⟩
theorem field_bool6 {H : Type} {enc : TypeId × Value → H} {P : Program} {w : World} {base : Nat} {spare : Nat → Bool} {held : Bool} {n : Nat} {t : TypeId} {cs : List Value} {x : Option (DataW H × List MemPlace)} {c : Value}
    (hu : P.underlying t = some .bool) (h : DataW.trod enc P w base spare held n t cs = x) (hx : x.isSome = true) (hc : cs = [c]) : ∃ a, c = .bool a := by
  obtain ⟨y, rfl⟩ := Option.isSome_iff_exists.1 hx
  subst hc
  obtain ⟨a, ea, _⟩ := DataW.trod_bool hu h
  simp at ea
  exact ⟨a, ea⟩
theorem open_part {H : Type} {enc : TypeId × Value → H} {w : World} {base : Nat} {held : Bool} {r : Reach} {b0 : Nat} {v : Value} {d : DataW H} {p : List MemPlace}
    (hv : Value.okWide Tryd.prog w r b0 24 v) (h : DataW.Trod enc Tryd.prog w base (fun _ => true) held 24 v d p) :
    ∃ (f : Bool) (e n i : Int) (a : Option Addr) (len cap : Nat) (zs : List Int), v = .agg #[.bool f, .int .i64 e, .int .i64 n, .int .i64 i, .slice a len cap] ∧ (Lit.int .i64 e).wf = true ∧ (Lit.int .i64 n).wf = true ∧ (Lit.int .i64 i).wf = true ∧ IsRow .u8 w a len cap zs := by
  obtain ⟨cs, rfl, hsz⟩ := okWide_struct Tryd.underlying24 hv
  obtain ⟨c0, c1, c2, c3, c4, rfl⟩ := array5 (hsz.trans (by kernel_rfl))
  obtain ⟨fuel, hf⟩ := h
  obtain ⟨xs, n, _, _, hl, hlen, hfs⟩ := DataW.trod_struct Tryd.underlying24 hf
  have hx : ∀ i, i < 5 → (xs[i]?).isSome = true := fun i hi => by
    have : xs.length = 5 := hlen
    simp; omega
  obtain ⟨a0, rfl⟩ := field_bool6 Tryd.underlying4 (hfs 0 _ rfl) (hx 0 (by decide)) (c := c0) rfl
  obtain ⟨a1, rfl, w1⟩ := field_int6 Tryd.underlying3 (hfs 1 _ rfl) (hx 1 (by decide)) (c := c1) rfl
  obtain ⟨a2, rfl, w2⟩ := field_int6 Tryd.underlying3 (hfs 2 _ rfl) (hx 2 (by decide)) (c := c2) rfl
  obtain ⟨a3, rfl, w3⟩ := field_int6 Tryd.underlying3 (hfs 3 _ rfl) (hx 3 (by decide)) (c := c3) rfl
  obtain ⟨y, hy⟩ := Option.isSome_iff_exists.1 (hx 4 (by decide))
  have h4 := hfs 4 _ rfl
  rw [hy] at h4
  have h4' : DataW.trod enc Tryd.prog w base (fun _ => true) held n 22 [c4] = some y := h4
  rcases open_ints Tryd.underlying22 Tryd.underlying5 (by kernel_rfl) h4' with ⟨hcs, _⟩ | ⟨x, l, c, zs, hcs, _, hlc, hm, hz, _, hcell, hwz⟩
  · simp at hcs
    subst hcs
    exact ⟨a0, a1, a2, a3, none, 0, 0, [], rfl, w1, w2, w3, .inl ⟨rfl, rfl, rfl, rfl⟩⟩
  · simp at hcs
    subst hcs
    exact ⟨a0, a1, a2, a3, some x, l, c, zs, rfl, w1, w2, w3, .inr ⟨_, rfl, hlc, hm, by simpa using hz, hcell, hwz⟩⟩
end Go.Proofs.YtndeknkfljnjoaaDoor
