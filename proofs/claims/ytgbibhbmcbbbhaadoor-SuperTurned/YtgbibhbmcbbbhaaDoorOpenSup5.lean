/- How a superblock that came in by value reads. -/
import Derived.Test.YtgbibhbmcbbbhaaDoorSuper5
import Derived.OpenShut
import Derived.WalkKit
import Derived.ProofKit
namespace Go.Proofs.YtgbibhbmcbbbhaaDoor
open Go.ChangeShapes Go.WideShapes Go.ChangeAt Go.RowKit

theorem array8 {α : Type} {cs : Array α} (h : cs.size = 8) : ∃ c0 c1 c2 c3 c4 c5 c6 c7, cs = #[c0, c1, c2, c3, c4, c5, c6, c7] := by
  obtain ⟨l⟩ := cs
  match l, h with
  | [c0, c1, c2, c3, c4, c5, c6, c7], _ => exact ⟨c0, c1, c2, c3, c4, c5, c6, c7, rfl⟩
theorem field_int {H : Type} {enc : TypeId × Value → H} {P : Program} {w : World} {base : Nat} {spare : Nat → Bool} {held : Bool} {n : Nat} {t : TypeId} {k : IntKind} {cs : List Value} {x : Option (DataW H × List MemPlace)} {c : Value}
    (hu : P.underlying t = some (.int k)) (h : DataW.trod enc P w base spare held n t cs = x) (hx : x.isSome = true) (hc : cs = [c]) : ∃ a, c = .int k a ∧ (Lit.int k a).wf = true := by
  obtain ⟨y, rfl⟩ := Option.isSome_iff_exists.1 hx
  subst hc
  obtain ⟨a, ea, _, wa⟩ := DataW.trod_int hu h
  simp at ea
  exact ⟨a, ea, wa⟩
theorem bd_i64 {a : Int} (h : (Lit.int .i64 a).wf = true) : -9223372036854775808 ≤ a ∧ a ≤ 9223372036854775807 := by
  simpa [Lit.wf, IntKind.min, IntKind.max, IntKind.signed, IntKind.bits] using h
theorem bd_u32 {a : Int} (h : (Lit.int .u32 a).wf = true) : 0 ≤ a ∧ a ≤ 4294967295 := by
  simpa [Lit.wf, IntKind.min, IntKind.max, IntKind.signed, IntKind.bits] using h

theorem open_sup {H : Type} {enc : TypeId × Value → H} {w : World} {base : Nat} {spare : Nat → Bool} {held : Bool} {r : Reach} {b0 : Nat} {v : Value} {d : DataW H} {p : List MemPlace}
    (hv : Value.okWide Tryd.prog w r b0 24 v) (h : DataW.Trod enc Tryd.prog w base spare held 24 v d p) : ∃ s : Sup, v = sval s ∧ s.Fits := by
  obtain ⟨cs, rfl, hsz⟩ := okWide_struct Tryd.underlying24 hv
  obtain ⟨c0, c1, c2, c3, c4, c5, c6, c7, rfl⟩ := array8 (hsz.trans (by kernel_rfl))
  obtain ⟨fuel, hf⟩ := h
  obtain ⟨xs, n, _, _, hl, hlen, hfs⟩ := DataW.trod_struct Tryd.underlying24 hf
  have hx : ∀ i, i < 8 → (xs[i]?).isSome = true := fun i hi => by
    have : xs.length = 8 := hlen
    simp; omega
  obtain ⟨a0, rfl, w0⟩ := field_int Tryd.underlying3 (hfs 0 _ rfl) (hx 0 (by decide)) (c := c0) rfl
  obtain ⟨a1, rfl, w1⟩ := field_int Tryd.underlying3 (hfs 1 _ rfl) (hx 1 (by decide)) (c := c1) rfl
  obtain ⟨a2, rfl, w2⟩ := field_int Tryd.underlying3 (hfs 2 _ rfl) (hx 2 (by decide)) (c := c2) rfl
  obtain ⟨a3, rfl, w3⟩ := field_int Tryd.underlying3 (hfs 3 _ rfl) (hx 3 (by decide)) (c := c3) rfl
  obtain ⟨a4, rfl, w4⟩ := field_int Tryd.underlying3 (hfs 4 _ rfl) (hx 4 (by decide)) (c := c4) rfl
  obtain ⟨a5, rfl, w5⟩ := field_int Tryd.underlying22 (hfs 5 _ rfl) (hx 5 (by decide)) (c := c5) rfl
  obtain ⟨a6, rfl, w6⟩ := field_int Tryd.underlying3 (hfs 6 _ rfl) (hx 6 (by decide)) (c := c6) rfl
  obtain ⟨a7, rfl, w7⟩ := field_int Tryd.underlying3 (hfs 7 _ rfl) (hx 7 (by decide)) (c := c7) rfl
  exact ⟨⟨a0, a1, a2, a3, a4, a5, a6, a7⟩, rfl, ⟨bd_i64 w0, bd_i64 w1, bd_i64 w2, bd_i64 w3, bd_i64 w4, bd_u32 w5, bd_i64 w6, bd_i64 w7⟩⟩
end Go.Proofs.YtgbibhbmcbbbhaaDoor
