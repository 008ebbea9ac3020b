/- How an argument that is a slice of acts reads; the walk of the law JournalCrashes takes it so. -/
import Derived.Test.YthhdkadjlddmkaaDoorCrash7
import Derived.Deep.Strs
namespace Go.Proofs.YthhdkadjlddmkaaDoor
open Go.ChangeShapes Go.WideShapes Go.RowKit Go.Deep
set_option linter.unusedVariables false

theorem octs_nil7 (w : World) : Octs w (.slice none 0 0) [] := ⟨fun z h => (by cases h), (by simp), none, 0, rfl, Nat.le_refl _, (by simp), .inl ⟨rfl, rfl⟩⟩
theorem add_plain7 (b off j : Nat) : (⟨b, off, none⟩ : Addr).add j = ⟨b, off + j, none⟩ := by unfold Addr.add; split <;> simp_all
/-- A slice of ints that came in, by its cell. -/
theorem open_keep7 {H : Type} {enc : TypeId × Value → H} {w : World} {base : Nat} {held : Bool} {fuel : Nat} {v : Value} {x : DataW H × List MemPlace} (h : DataW.trod enc Tryd.prog w base (fun _ => true) held fuel 33 [v] = some x) : ∃ zs, Ints w v zs := by
  rcases open_ints Tryd.underlying33 Tryd.underlying3 (by kernel_rfl) h with ⟨hcs, _⟩ | ⟨a, l, c, zs, hcs, _, hl, hm, hz, _, hcell, _⟩
  · simp at hcs
    subst hcs
    exact ⟨[], Ints.nil w⟩
  · simp at hcs
    subst hcs
    have hzc : zs.length = c := by simpa using hz
    have hlen : (zs.take l).length = l := by rw [List.length_take]; omega
    refine ⟨zs.take l, by omega, some a, c, by rw [hlen], ?_⟩
    by_cases h0 : l = 0
    · left; subst h0; rfl
    · right
      obtain ⟨b, off, rfl, hc'⟩ := ints_at hcell (by omega)
      refine ⟨b, off, rfl, cell_lt (hc' 0 (by omega)), fun j hj => ?_⟩
      rw [hlen] at hj
      rw [hc' j (by omega), List.getElem?_take_of_lt hj]
      rfl
/-- A slice of octets that came in, by its cell. -/
theorem open_octs7 {H : Type} {enc : TypeId × Value → H} {w : World} {base : Nat} {held : Bool} {fuel : Nat} {v : Value} {x : DataW H × List MemPlace} (h : DataW.trod enc Tryd.prog w base (fun _ => true) held fuel 32 [v] = some x) : ∃ zs, Octs w v zs := by
  rcases open_ints Tryd.underlying32 Tryd.underlying5 (by kernel_rfl) h with ⟨hcs, _⟩ | ⟨a, l, c, zs, hcs, _, hl, hm, hz, _, hcell, hwz⟩
  · simp at hcs
    subst hcs
    exact ⟨[], octs_nil7 w⟩
  · simp at hcs
    subst hcs
    exact ⟨_, Octs.ofRow (.inr ⟨_, rfl, hl, hm, by simpa using hz, hcell, hwz⟩)⟩
set_option maxRecDepth 20000 in
theorem open_acts {H : Type} {enc : TypeId × Value → H} {w : World} {base : Nat} {held : Bool} {a : Option Addr} {len cap : Nat} {d : DataW H} {p : List MemPlace}
    (h : DataW.Trod enc Tryd.prog w base (fun _ => true) held 22 (.slice a len cap) d p) : ∃ cs, Acts w (.slice a len cap) cs := by
  obtain ⟨fuel, hf⟩ := h
  rcases open_slice Tryd.underlying22 hf with ⟨hcs, _⟩ | ⟨x, l, c, m, n, D, Pl, hcs, _, hl, hm, hmm, _, hall⟩
  · simp [Value.cells] at hcs
    obtain ⟨rfl, rfl, rfl⟩ := hcs
    exact ⟨[], by simp, none, 0, rfl, .inl rfl⟩
  · simp [Value.cells] at hcs
    obtain ⟨rfl, rfl, rfl⟩ := hcs
    have hm' : m = cap := by simpa using hmm
    subst hm'
    have c6 : Tryd.prog.cellsOf 37 = 6 := by kernel_rfl
    rw [c6] at hall
    have each : ∀ i, i < len → ∃ c : Ac, (∀ j v, (acCells c)[j]? = some v → w.cell? ((x.add (i * 6)).add j) = some v) ∧ Octs w c.bv c.bs ∧ Ints w c.kv c.ks ∧ c.n ≤ 9223372036854775807 := by
      intro i hi
      obtain ⟨cs', hc', ht'⟩ := hall i (by omega)
      obtain ⟨_, hlen, hcell⟩ := World.cells?_some hc'
      obtain ⟨xs, n', _, _, hl4, hlen4, hfld⟩ := DataW.trod_struct Tryd.underlying37 ht'
      match cs', hlen with
      | [v0, v1, v2, v3, v4, v5], _ =>
        match xs, hlen4 with
        | [y0, y1, y2, y3], _ =>
          have h0' : DataW.trod enc Tryd.prog w base (fun _ => true) held n' 3 [v0] = some y0 := hfld 0 _ rfl
          have h1' : DataW.trod enc Tryd.prog w base (fun _ => true) held n' 3 [v1] = some y1 := hfld 1 _ rfl
          have h2' : DataW.trod enc Tryd.prog w base (fun _ => true) held n' 32 [v2] = some y2 := hfld 2 _ rfl
          have h3' : DataW.trod enc Tryd.prog w base (fun _ => true) held n' 35 [v3, v4, v5] = some y3 := hfld 3 _ rfl
          obtain ⟨z0, z1, z2, n'', _, _, k0, k1, k2⟩ := trod_struct3 Tryd.underlying35 h3'
          have k0' : DataW.trod enc Tryd.prog w base (fun _ => true) held n'' 33 [v3] = some z0 := k0
          have k1' : DataW.trod enc Tryd.prog w base (fun _ => true) held n'' 3 [v4] = some z1 := k1
          have k2' : DataW.trod enc Tryd.prog w base (fun _ => true) held n'' 3 [v5] = some z2 := k2
          obtain ⟨kd, e0, _, _⟩ := DataW.trod_int Tryd.underlying3 h0'
          obtain ⟨nn, e1, _, w1⟩ := DataW.trod_int Tryd.underlying3 h1'
          obtain ⟨bs, hbs⟩ := open_octs7 h2'
          obtain ⟨ks, hks⟩ := open_keep7 k0'
          obtain ⟨tn, e2, _⟩ := DataW.trod_int Tryd.underlying3 k1'
          obtain ⟨ct, e3, _⟩ := DataW.trod_int Tryd.underlying3 k2'
          simp at e0 e1 e2 e3
          subst e0 e1 e2 e3
          have hw : nn ≤ 9223372036854775807 := by
            have : -9223372036854775808 ≤ nn ∧ nn ≤ 9223372036854775807 := by simpa [Lit.wf, IntKind.min, IntKind.max, IntKind.signed, IntKind.bits] using w1
            exact this.2
          refine ⟨⟨kd, nn, v2, bs, v3, ks, tn, ct⟩, fun j v hv => ?_, hbs, hks, hw⟩
          have hj : j < 6 := (List.getElem?_eq_some_iff.1 hv).1
          rw [hcell j hj]
          exact hv
    haveI : Inhabited Ac := ⟨⟨0, 0, .bool false, [], .bool false, [], 0, 0⟩⟩
    obtain ⟨C, hC⟩ := choose_lt each
    have hlen : ((List.range len).map C).length = len := by simp
    unfold maxLen at hm
    refine ⟨(List.range len).map C, by rw [hlen]; unfold maxLen; omega, some x, m, by rw [hlen], ?_⟩
    by_cases h0 : len = 0
    · left; subst h0; rfl
    · right
      obtain ⟨b, off, spot⟩ := x
      have h00 := (hC 0 (by omega)).1 0 _ rfl
      have hspot : spot = none := by simpa [Addr.add] using World.cell?_spot h00
      subst hspot
      refine ⟨b, off, rfl, ?_, fun j c hj => ?_⟩
      · rw [add_plain7, add_plain7] at h00
        exact cell_lt h00
      · obtain ⟨hjl, rfl⟩ : j < len ∧ C j = c := by
          have hjl : j < len := by have := (List.getElem?_eq_some_iff.1 hj).1; rwa [hlen] at this
          refine ⟨hjl, ?_⟩
          rw [List.getElem?_map, List.getElem?_range hjl] at hj
          simpa using hj
        obtain ⟨h1, h2⟩ := hC j hjl
        refine ⟨fun i v hv => ?_, h2⟩
        have := h1 i v hv
        rwa [add_plain7, add_plain7] at this
end Go.Proofs.YthhdkadjlddmkaaDoor
