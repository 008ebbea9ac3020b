/- How an argument that is a slice of fields reads. -/
import Derived.Test.YtclondljjfljpaaFields4
import Derived.ChangeArms
import Derived.DataReads
import Derived.Deep.Strs
namespace Go.Proofs.Ytclondljjfljpaa
open Go.ChangeShapes Go.WideShapes Go.RowKit Go.Deep
set_option linter.unusedVariables false

theorem add_plain' (b off j : Nat) : (⟨b, off, none⟩ : Addr).add j = ⟨b, off + j, none⟩ := by unfold Addr.add; split <;> simp_all
theorem wf_i64 {z : Int} (h : (Lit.int .i64 z).wf = true) : -9223372036854775808 ≤ z ∧ z ≤ 9223372036854775807 := by
  simpa [Lit.wf, IntKind.min, IntKind.max, IntKind.signed, IntKind.bits] using h
theorem open_flds {H : Type} {enc : TypeId × Value → H} {w : World} {base : Nat} {held : Bool} {a : Option Addr} {len cap : Nat} {d : DataW H} {p : List MemPlace}
    (h : DataW.Trod enc Try.prog w base (fun _ => true) held 22 (.slice a len cap) d p) : ∃ fs, Flds w (.slice a len cap) fs := by
  obtain ⟨fuel, hf⟩ := h
  rcases open_slice Try.underlying22 hf with ⟨hcs, _⟩ | ⟨x, l, c, m, n, D, Pl, hcs, _, hl, hm, hmm, _, hall⟩
  · simp [Value.cells] at hcs
    obtain ⟨rfl, rfl, rfl⟩ := hcs
    exact ⟨[], by simp, by simp, none, 0, rfl, .inl rfl⟩
  · simp [Value.cells] at hcs
    obtain ⟨rfl, rfl, rfl⟩ := hcs
    have hm' : m = cap := by simpa using hmm
    subst hm'
    have c4 : Try.prog.cellsOf 31 = 4 := by kernel_rfl
    rw [c4] at hall
    have each : ∀ i, i < len → ∃ f : Fld, f.Ok ∧ w.cell? ((x.add (i * 4)).add 0) = some (.int .i64 f.kind) ∧ w.cell? ((x.add (i * 4)).add 1) = some (.int .i64 f.n) ∧ w.cell? ((x.add (i * 4)).add 2) = some (.int .i64 f.size) ∧ w.cell? ((x.add (i * 4)).add 3) = some (.string f.s) := by
      intro i hi
      obtain ⟨cs', hc', ht'⟩ := hall i (by omega)
      obtain ⟨_, hlen, hcell⟩ := World.cells?_some hc'
      obtain ⟨xs, n', _, _, hl4, hlen4, hfld⟩ := DataW.trod_struct Try.underlying31 ht'
      match cs', hlen with
      | [v0, v1, v2, v3], _ =>
        match xs, hlen4 with
        | [y0, y1, y2, y3], _ =>
          have h0' : DataW.trod enc Try.prog w base (fun _ => true) held n' 3 [v0] = some y0 := hfld 0 _ rfl
          have h1' : DataW.trod enc Try.prog w base (fun _ => true) held n' 3 [v1] = some y1 := hfld 1 _ rfl
          have h2' : DataW.trod enc Try.prog w base (fun _ => true) held n' 3 [v2] = some y2 := hfld 2 _ rfl
          have h3' : DataW.trod enc Try.prog w base (fun _ => true) held n' 9 [v3] = some y3 := hfld 3 _ rfl
          obtain ⟨kd, e0, _, _⟩ := DataW.trod_int Try.underlying3 h0'
          obtain ⟨nn, e1, _, w1⟩ := DataW.trod_int Try.underlying3 h1'
          obtain ⟨sz, e2, _, _⟩ := DataW.trod_int Try.underlying3 h2'
          obtain ⟨ss, e3, _, _⟩ := DataW.trod_string Try.underlying9 h3'
          simp at e0 e1 e2 e3
          subst e0 e1 e2 e3
          have hw := wf_i64 w1
          exact ⟨⟨kd, nn, sz, ss⟩, ⟨hw.1, hw.2⟩, hcell 0 (by decide), hcell 1 (by decide), hcell 2 (by decide), hcell 3 (by decide)⟩
    haveI : Inhabited Fld := ⟨⟨0, 0, 0, ByteArray.empty⟩⟩
    obtain ⟨C, hC⟩ := choose_lt each
    have hlen : ((List.range len).map C).length = len := by simp
    unfold maxLen at hm
    refine ⟨(List.range len).map C, by rw [hlen]; unfold maxLen; omega, ?_, some x, m, by rw [hlen], ?_⟩
    · intro f hf
      simp only [List.mem_map, List.mem_range] at hf
      obtain ⟨i, hi, rfl⟩ := hf
      exact (hC i hi).1
    · by_cases h0 : len = 0
      · left; subst h0; rfl
      · right
        obtain ⟨b, off, spot⟩ := x
        have h00 := (hC 0 (by omega)).2.1
        have hspot : spot = none := by simpa [Addr.add] using World.cell?_spot h00
        subst hspot
        refine ⟨b, off, rfl, ?_, fun k f hk => ?_⟩
        · rw [add_plain', add_plain'] at h00
          exact cell_lt h00
        · obtain ⟨hjl, rfl⟩ : k < len ∧ C k = f := by
            have hjl : k < len := by have := (List.getElem?_eq_some_iff.1 hk).1; rwa [hlen] at this
            refine ⟨hjl, ?_⟩
            rw [List.getElem?_map, List.getElem?_range hjl] at hk
            simpa using hk
          obtain ⟨_, g0, g1, g2, g3⟩ := hC k hjl
          rw [add_plain', add_plain'] at g0 g1 g2 g3
          exact ⟨g0, g1, g2, g3⟩
end Go.Proofs.Ytclondljjfljpaa
