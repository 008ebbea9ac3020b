/- How an argument that is a slice of crashes reads; the walk of the law 'DiskKeeps' for every input. -/
import Derived.Test.YtjjodmppneonjaaLawKeeps
import Derived.ChangeArms
import Derived.DataReads
namespace Go.Proofs.Ytjjodmppneonjaa
open Go.ChangeShapes Go.WideShapes Go.RowKit Go.Deep
set_option linter.unusedVariables false

theorem add_plain' (b off j : Nat) : (⟨b, off, none⟩ : Addr).add j = ⟨b, off + j, none⟩ := by unfold Addr.add; split <;> simp_all
/-- A slice of ints that came in, by its cell. -/
theorem open_keep {H : Type} {enc : TypeId × Value → H} {w : World} {base : Nat} {held : Bool} {fuel : Nat} {v : Value} {x : DataW H × List MemPlace} (h : DataW.trod enc Try.prog w base (fun _ => true) held fuel 31 [v] = some x) : ∃ zs, Ints w v zs := by
  rcases open_ints Try.underlying31 Try.underlying3 (by kernel_rfl) h with ⟨hcs, _⟩ | ⟨a, l, c, zs, hcs, _, hl, hm, hz, _, hcell, _⟩
  · simp at hcs
    subst hcs
    exact ⟨[], Ints.nil w⟩
  · simp at hcs
    subst hcs
    have hzc : zs.length = c := by simpa using hz
    have hlen : (zs.take l).length = l := by rw [List.length_take]; omega
    refine ⟨zs.take l, by omega, some a, c, by rw [hlen], ?_⟩
    by_cases h0 : l = 0
    · left; subst h0; rfl
    · right
      obtain ⟨b, off, rfl, hc'⟩ := ints_at hcell (by omega)
      refine ⟨b, off, rfl, cell_lt (hc' 0 (by omega)), fun j hj => ?_⟩
      rw [hlen] at hj
      rw [hc' j (by omega), List.getElem?_take_of_lt hj]
      rfl
theorem open_crashes {H : Type} {enc : TypeId × Value → H} {w : World} {base : Nat} {held : Bool} {a : Option Addr} {len cap : Nat} {d : DataW H} {p : List MemPlace}
    (h : DataW.Trod enc Try.prog w base (fun _ => true) held 37 (.slice a len cap) d p) : ∃ cs, Crashes w (.slice a len cap) cs := by
  obtain ⟨fuel, hf⟩ := h
  rcases open_slice Try.underlying37 hf with ⟨hcs, _⟩ | ⟨x, l, c, m, n, D, Pl, hcs, _, hl, hm, hmm, _, hall⟩
  · simp [Value.cells] at hcs
    obtain ⟨rfl, rfl, rfl⟩ := hcs
    exact ⟨[], by simp, none, 0, rfl, .inl rfl⟩
  · simp [Value.cells] at hcs
    obtain ⟨rfl, rfl, rfl⟩ := hcs
    have hm' : m = cap := by simpa using hmm
    subst hm'
    have c3 : Try.prog.cellsOf 33 = 3 := by kernel_rfl
    rw [c3] at hall
    have each : ∀ i, i < len → ∃ c : Cr, (∀ j v, (crCells c)[j]? = some v → w.cell? ((x.add (i * 3)).add j) = some v) ∧ Ints w c.kv c.zs := by
      intro i hi
      obtain ⟨cs', hc', ht'⟩ := hall i (by omega)
      obtain ⟨_, hlen, hcell⟩ := World.cells?_some hc'
      obtain ⟨y0, y1, y2, n', _, _, h0, h1, h2⟩ := trod_struct3 Try.underlying33 ht'
      match cs', hlen with
      | [v0, v1, v2], _ =>
        have h0' : DataW.trod enc Try.prog w base (fun _ => true) held n' 31 [v0] = some y0 := h0
        have h1' : DataW.trod enc Try.prog w base (fun _ => true) held n' 3 [v1] = some y1 := h1
        have h2' : DataW.trod enc Try.prog w base (fun _ => true) held n' 3 [v2] = some y2 := h2
        obtain ⟨zs, hzs⟩ := open_keep h0'
        obtain ⟨tn, e1, _⟩ := DataW.trod_int Try.underlying3 h1'
        obtain ⟨ct, e2, _⟩ := DataW.trod_int Try.underlying3 h2'
        simp at e1 e2
        subst e1 e2
        refine ⟨⟨v0, zs, tn, ct⟩, fun j v hv => ?_, hzs⟩
        have hj : j < 3 := (List.getElem?_eq_some_iff.1 hv).1
        rw [hcell j hj]
        exact hv
    haveI : Inhabited Cr := ⟨⟨.bool false, [], 0, 0⟩⟩
    obtain ⟨C, hC⟩ := choose_lt each
    have hlen : ((List.range len).map C).length = len := by simp
    unfold maxLen at hm
    refine ⟨(List.range len).map C, by rw [hlen]; unfold maxLen; omega, some x, m, by rw [hlen], ?_⟩
    by_cases h0 : len = 0
    · left; subst h0; rfl
    · right
      obtain ⟨b, off, spot⟩ := x
      have h00 := (hC 0 (by omega)).1 0 _ rfl
      have hspot : spot = none := by simpa [Addr.add] using World.cell?_spot h00
      subst hspot
      refine ⟨b, off, rfl, ?_, fun j c hj => ?_⟩
      · rw [add_plain', add_plain'] at h00
        exact cell_lt h00
      · obtain ⟨hjl, rfl⟩ : j < len ∧ C j = c := by
          have hjl : j < len := by have := (List.getElem?_eq_some_iff.1 hj).1; rwa [hlen] at this
          refine ⟨hjl, ?_⟩
          rw [List.getElem?_map, List.getElem?_range hjl] at hj
          simpa using hj
        obtain ⟨h1, h2⟩ := hC j hjl
        refine ⟨fun i v hv => ?_, h2⟩
        have := h1 i v hv
        rwa [add_plain', add_plain'] at this

set_option maxHeartbeats 400000 in
theorem diskKeeps_walk (a0 : Option Addr) (len0 cap0 : Nat) (z0 : List Int) (a1 : Option Addr) (len1 cap1 : Nat) (c1 : List Cr) (w : World) (f0 : IsRow .u8 w a0 len0 cap0 z0) (f1 : Crashes w (.slice a1 len1 cap1) c1) :
    Calls Try.prog 4 #[.slice a0 len0 cap0, .slice a1 len1 cap1] w fun e w' => e = .returned (.bool true) ∧ Below w.heap.size w w' := by
  have h0 := Octs.ofRow f0
  have l0 := h0.lenLe
  have l1 : len1 ≤ 9223372036854775807 := by
    have e := f1.lenEq
    have := f1.1
    unfold maxLen at this
    omega
  clear f0
  by_cases hn : len0 ≤ 20 ∧ len1 ≤ 5
  · exact keeps_main a0 len0 cap0 _ a1 len1 cap1 _ w h0 f1 hn.1 hn.2
  · clear h0 f1
    by_cases h20 : (20 : Int) < len0
    · clear hn
      go_enter Try.func4, Try.ntmps4
      go_wp2_with fail
      refine (awake3 _).mono ?_
      rintro e w1 ⟨rfl, hb1⟩
      have HB1 : Hid (Below w.heap.size w w1) := hb1
      have hs1 : w.heap.size ≤ w1.heap.size := hb1.size
      clear hb1
      go_wp2_with fail
      refine (awake3 _).mono ?_
      rintro e w2 ⟨rfl, hb2⟩
      have HB2 : Hid (Below w.heap.size w w2) := HB1.out.trans (hb2.mono hs1)
      clear hb2
      go_wp2
      go_ret
      exact ⟨rfl, HB2.out⟩
    · have h5 : (5 : Int) < len1 := by omega
      clear hn
      go_enter Try.func4, Try.ntmps4
      go_wp2_with fail
      refine (awake3 _).mono ?_
      rintro e w1 ⟨rfl, hb1⟩
      have HB1 : Hid (Below w.heap.size w w1) := hb1
      have hs1 : w.heap.size ≤ w1.heap.size := hb1.size
      clear hb1
      go_wp2_with fail
      refine (awake3 _).mono ?_
      rintro e w2 ⟨rfl, hb2⟩
      have HB2 : Hid (Below w.heap.size w w2) := HB1.out.trans (hb2.mono hs1)
      clear hb2
      go_wp2
      go_ret
      exact ⟨rfl, HB2.out⟩
end Go.Proofs.Ytjjodmppneonjaa
