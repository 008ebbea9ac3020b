/- 'm[k]++' on a map whose keys are read by a law: the entry, the look-up beside it, the store. -/
import Derived.Test.YtfclhehpbniapaaMap10
namespace Go.Proofs.Ytfclhehpbniapaa
open Go.RowKit Go.Maps Go.ChangeShapes Go.WideShapes Go.MapKept Go.ChangeMaps Go.WideElems
open Go.WideMaps (KeyLaw)
set_option linter.unusedVariables false
set_option maxRecDepth 20000

theorem entry_inc {H : Type} {P : Program} {w : World} {t k e : TypeId} {R : Value → Option (DataW H × List MemPlace)} {b : Nat} {es : Array MapEntry} {clock : Nat} (K : KeyLaw P k) (ht : P.underlying t = some (.map k e)) {z : Value} (hz : ∀ u : World, (zeroValue e).run P u = .ok z u) (hb : w.heap[b]? = some (.map es clock)) (F : Fit P k R es clock)
    {key : Value} {kl : Lit} (hkey : keyOf P k key = some kl) :
    ∃ (v0 : Value) (st : Nat) (es1 : Array MapEntry) (clock1 : Nat), (Instr.lookup t (.map (some b)) key false).run P w = .ok v0 w ∧ (Instr.mapEntry t (.map (some b)) key).run P w = .ok (.tuple #[v0, goInt st]) (setBlock w b (.map es1 clock1)) ∧
      (Instr.mapUpdate t (.map (some b)) key v0).run P w = .ok () (setBlock w b (.map es1 clock1)) ∧
      ∀ (w2 : World) (val : Value), w2.heap[b]? = some (.map es1 clock1) → ∃ es' clock', (Instr.entryStore t (.map (some b)) (goInt st) val).run P w2 = .ok () (setBlock w2 b (.map es' clock')) ∧
        (Instr.mapUpdate t (.map (some b)) key val).run P w = .ok () (setBlock w b (.map es' clock')) := by
  obtain ⟨s1, s2, _⟩ := F.stamped
  rcases K.find w hkey es.toList F.keys with ⟨h1, h2⟩ | ⟨j, e0, h1, h2, h3⟩
  · refine ⟨z, clock, es.push ⟨key, z, clock⟩, clock + 1, ?_, ?_, ?_, fun w2 val hw2 => ⟨es.push ⟨key, val, clock⟩, clock + 1, ?_, ?_⟩⟩
    · simp [Instr.lookup, run_underlying ht, MapKept.run_getObj_map hb, K.check w _ hkey, h1, hz, Result.andThen]
    · simp [Instr.mapEntry, run_underlying ht, MapKept.run_getObj_map hb, K.check w false hkey, h1, hz, MapKept.run_setObj_map _ hb, Result.andThen, setBlock]
    · simp [Instr.mapUpdate, run_underlying ht, MapKept.run_getObj_map hb, K.check w false hkey, h1, MapKept.run_setObj_map _ hb, Result.andThen, setBlock]
    · have hidx : (es.push ⟨key, z, clock⟩).findIdx? (fun e => ((e.born : Nat) : Int) == ((clock : Nat) : Int)) = some es.size := by
        rw [findIdx_arr]
        have := findIdx_born (l := (es.push ⟨key, z, clock⟩).toList) (j := es.size) (e0 := ⟨key, z, clock⟩) (by
          simp only [Array.toList_push, List.map_append, List.map_cons, List.map_nil]
          refine List.nodup_append.2 ⟨s2, by simp, fun a ha c hc e1 => ?_⟩
          simp only [List.mem_singleton] at hc
          obtain ⟨x, hx, rfl⟩ := List.mem_map.1 ha
          have := s1 x hx
          omega) (by simp)
        exact this
      have hmod : (es.push ⟨key, z, clock⟩).modify es.size (fun e => { e with val := val }) = es.push ⟨key, val, clock⟩ := by
        apply Array.ext'
        rw [Array.toList_modify, Array.toList_push, Array.toList_push, ← Array.length_toList, modify_last]
      simp [Instr.entryStore, MapKept.run_getObj_map hw2, asInt, asIntOf, goInt, hidx, hmod, MapKept.run_setObj_map _ hw2, Result.andThen, setBlock]
    · simp [Instr.mapUpdate, run_underlying ht, MapKept.run_getObj_map hb, K.check w false hkey, h1, MapKept.run_setObj_map _ hb, Result.andThen, setBlock]
  · have hj : es[j]? = some e0 := by simpa using h2
    have hsame : es.modify j (fun e => { e with key := key }) = es := by
      apply Array.ext'
      rw [Array.toList_modify, ChangeMaps.modify_eq_set _ _ _ _ h2]
      have : ({ e0 with key := key } : MapEntry) = e0 := by rw [← h3]
      rw [this]
      exact set_self _ _ _ h2
    have hsame2 : es.modify j (fun e' => { e' with key := key, val := e0.val }) = es := by
      apply Array.ext'
      rw [Array.toList_modify, ChangeMaps.modify_eq_set _ _ _ _ h2]
      have : ({ e0 with key := key, val := e0.val } : MapEntry) = e0 := by rw [← h3]
      rw [this]
      exact set_self _ _ _ h2
    refine ⟨e0.val, e0.born, es, clock, ?_, ?_, ?_, fun w2 val hw2 => ⟨es.modify j (fun e' => { e' with key := key, val := val }), clock, ?_, ?_⟩⟩
    · simp [Instr.lookup, run_underlying ht, MapKept.run_getObj_map hb, K.check w _ hkey, h1, Result.andThen]
    · simp [Instr.mapEntry, run_underlying ht, MapKept.run_getObj_map hb, K.check w false hkey, h1, hj, h3, K.stays w hkey, hsame, MapKept.run_setObj_map _ hb, Result.andThen, setBlock]
    · simp [Instr.mapUpdate, run_underlying ht, MapKept.run_getObj_map hb, K.check w false hkey, h1, hj, h3, K.stays w hkey, hsame2, MapKept.run_setObj_map _ hb, Result.andThen, setBlock]
    · have hidx : es.findIdx? (fun e => ((e.born : Nat) : Int) == ((e0.born : Nat) : Int)) = some j := by
        rw [findIdx_arr]
        exact findIdx_born s2 h2
      have hmod : es.modify j (fun e => { e with val := val }) = es.modify j (fun e' => { e' with key := key, val := val }) := by
        apply Array.ext'
        rw [Array.toList_modify, Array.toList_modify, ChangeMaps.modify_eq_set _ _ _ _ h2, ChangeMaps.modify_eq_set _ _ _ _ h2, ← h3]
      simp [Instr.entryStore, MapKept.run_getObj_map hw2, asInt, asIntOf, goInt, hidx, hmod, MapKept.run_setObj_map _ hw2, Result.andThen, setBlock]
    · simp [Instr.mapUpdate, run_underlying ht, MapKept.run_getObj_map hb, K.check w false hkey, h1, hj, h3, K.stays w hkey, MapKept.run_setObj_map _ hb, Result.andThen, setBlock]

theorem keyLaw10 : KeyLaw Try.prog 36 := deep_law_laid Try.laid10 (m := 2) (by omega) Try.rowK10 (by kernel_rfl) Try.wideK10
theorem zeroE10 (w : World) : (zeroValue 3).run Try.prog w = .ok (.int .i64 0) w := by kernel_rfl
theorem wf64 {c : Int} (h : I64 c) : (Lit.int .i64 c).wf = true := by
  simpa [Lit.wf, IntKind.min, IntKind.max, IntKind.signed, IntKind.bits, I64] using h
theorem count_len (ks : List Ky) (x : Ky) : ks.count x ≤ ks.length := List.count_le_length
theorem MapAt.look {w : World} {b : Nat} {ks : List Ky} (h : MapAt w b ks) {x : Ky} (hx : KI x) :
    (Instr.lookup 81 (.map (some b)) (.agg #[.int .i64 x.1, .int .i64 x.2]) false).run Try.prog w = .ok (.int .i64 (ks.count x : Nat)) w := by
  obtain ⟨D, h1, h2⟩ := h
  obtain ⟨c, hr, hat, _⟩ := h1.lookup_int lawK Try.underlying81 Try.underlying3 (zeroE10 _) (keyOf_k hx)
  rw [h2.times x hx] at hat
  simp only [DataW.lit.injEq, Lit.int.injEq, true_and] at hat
  rw [hr, hat]
/-- 'm[k]++', step by step. -/
theorem MapAt.inc {w : World} {b : Nat} {ks : List Ky} (h : MapAt w b ks) {x : Ky} (hx : KI x) (hl : ks.length < 1000000) :
    ∃ (st : Int) (w1 w2 : World), (Instr.mapEntry 81 (.map (some b)) (.agg #[.int .i64 x.1, .int .i64 x.2])).run Try.prog w = .ok (.tuple #[.int .i64 (ks.count x : Nat), .int .i64 st]) w1 ∧ w.grownBy w1 (some b) ∧
      (Instr.lookup 81 (.map (some b)) (.agg #[.int .i64 x.1, .int .i64 x.2]) false).run Try.prog w1 = .ok (.int .i64 (ks.count x : Nat)) w1 ∧
      (Instr.entryStore 81 (.map (some b)) (.int .i64 st) (.int .i64 (((ks.count x : Nat) : Int) + 1))).run Try.prog w1 = .ok () w2 ∧ MapAt w2 b (ks ++ [x]) ∧ w.grownBy w2 (some b) := by
  have hlook := h.look hx
  obtain ⟨D, hown, hD⟩ := h
  have hcl := count_len ks x
  have hTidy : Tidy D := by
    obtain ⟨es, e1, e2, _⟩ := hown.entries lawK
    exact ⟨es, e1, e2⟩
  have hmx : ks.length < maxLen := by unfold maxLen; omega
  have hown0 := hown
  obtain ⟨es, clock, hb, F, hs, hDe⟩ := hown
  obtain ⟨v0, st, es1, clock1, k1, k2, k3, k4⟩ := entry_inc keyLaw10 Try.underlying81 (zeroE10) hb F (keyOf_k hx)
  rw [hlook] at k1
  obtain rfl : Value.int .i64 (ks.count x : Nat) = v0 := by
    cases k1; rfl
  obtain ⟨wa, ra, oa, ga⟩ := hown0.update lawK Try.underlying81 hmx (keyOf_k hx) (plainElem_int (H := Unit) Try.underlying3 (a := (ks.count x : Nat)) (wf64 ⟨by omega, by omega⟩))
  rw [k3] at ra
  obtain rfl : setBlock w b (.map es1 clock1) = wa := by cases ra; rfl
  have hb1 : (setBlock w b (.map es1 clock1)).heap[b]? = some (.map es1 clock1) := heap_setBlock_same hb _
  obtain ⟨es', clock', k5, k6⟩ := k4 _ (.int .i64 (((ks.count x : Nat) : Int) + 1)) hb1
  obtain ⟨wb, rb, ob, gb⟩ := hown0.update lawK Try.underlying81 hmx (keyOf_k hx) (plainElem_int (H := Unit) Try.underlying3 (a := ((ks.count x : Nat) : Int) + 1) (wf64 ⟨by omega, by omega⟩))
  rw [k6] at rb
  obtain rfl : setBlock w b (.map es' clock') = wb := by cases rb; rfl
  have e1 : setBlock (setBlock w b (.map es1 clock1)) b (.map es' clock') = setBlock w b (.map es' clock') := by simp [setBlock]
  rw [e1] at k5
  refine ⟨(st : Int), _, _, k2, ga, ?_, k5, ⟨_, ?_, hD.snoc hTidy hx⟩, gb⟩
  · obtain ⟨c, hr, hat, _⟩ := oa.lookup_int lawK Try.underlying81 Try.underlying3 (zeroE10 _) (keyOf_k hx)
    rw [atKey_put_same hTidy.isMap (klit_key x)] at hat
    simp only [DataW.lit.injEq, Lit.int.injEq, true_and] at hat
    rw [hr, ← hat]
  · rw [List.length_append]
    exact ob
end Go.Proofs.Ytfclhehpbniapaa
