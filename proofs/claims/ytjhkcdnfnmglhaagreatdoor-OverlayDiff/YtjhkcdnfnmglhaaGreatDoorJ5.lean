/- Some texts of mine, one behind the other (joined by program). -/
import Derived.Test.YtjhkcdnfnmglhaaGreatDoorJ3
import Derived.Maps.RangeWalk
import Derived.Maps.OwnOps
import Derived.Maps.OwnSet
import Derived.Maps.Ext
import Derived.DeepKeys4
import Derived.WideKeyEntry
import Derived.Test.YtjhkcdnfnmglhaaGreatDoorJ4
import Derived.Deep.DeepMust
import Derived.Shelf.SlSortCmp.NoneTotal
import Derived.Test.YtjhkcdnfnmglhaaGreatDoorProg
import Derived.Deep.RegionHeld3

/- Maps from keys to how often each is there: what a key reads as; the map that Count makes. -/
namespace Go.Proofs.YtjhkcdnfnmglhaaGreatDoor
open Go.RowKit Go.Maps Go.ChangeShapes Go.WideShapes
set_option linter.unusedVariables false
set_option maxRecDepth 20000

theorem Tryz.laid10 : laidOutB Tryz.prog = true := by kernel_rfl
theorem Tryz.rowK10 : (32 : TypeId) < Tryz.prog.types.size := of_decide_eq_true (by kernel_rfl)
theorem Tryz.wideK10 : (match Tryz.prog.underlying 32 with | some (.array _ _) | some (.struct _) => true | _ => false) = true := by rw [Tryz.underlying32]
theorem lawK : Keyed Tryz.prog 32 := Keyed.of_law (deep_law_laid Tryz.laid10 (m := 2) (by omega) Tryz.rowK10 (by kernel_rfl) Tryz.wideK10)
theorem Tryz.keyT10 : Tryz.prog.keyType 32 = true := by kernel_rfl
theorem Tryz.cells10 : Tryz.prog.cellsOf 32 = 2 := by kernel_rfl

/-- What a key reads as. -/
def klit (k : Ky) : Lit := .string (keyBytes [.int .i64 k.1, .int .i64 k.2])
theorem Tryz.types10 : ∃ n, Tryz.prog.types.size = n + 1 := by
  have := Tryz.rowK10
  cases h : Tryz.prog.types.size with
  | zero => rw [h] at this; exact absurd this (by decide)
  | succ n => exact ⟨n, rfl⟩
theorem keyOf_k {k : Ky} (h : KI k) : keyOf Tryz.prog 32 (.agg #[.int .i64 k.1, .int .i64 k.2]) = some (klit k) := by
  have w1 : (Lit.int .i64 k.1).wf = true := by simpa [Lit.wf, IntKind.min, IntKind.max, IntKind.signed, IntKind.bits, I64] using h.1
  have w2 : (Lit.int .i64 k.2).wf = true := by simpa [Lit.wf, IntKind.min, IntKind.max, IntKind.signed, IntKind.bits, I64] using h.2
  have hf : (Value.agg #[.int .i64 k.1, .int .i64 k.2]).formed Tryz.prog 32 = true := by simp [Value.formed, Tryz.underlying32, Tryz.cells10]
  have c1 : Tryz.prog.cellsOf 3 = 1 := by kernel_rfl
  obtain ⟨n, hn⟩ := Tryz.types10
  unfold keyOf
  simp only [Tryz.underlying32, Tryz.keyT10, hf, Bool.and_self, if_true, hn]
  simp [Program.keyLits, Tryz.underlying32, Tryz.underlying3, Tryz.cells10, c1, Value.cells, w1, w2, klit]
theorem lits1 {n : Nat} {v : Value} {l : List Lit} (h : Tryz.prog.keyLits (n + 1) 3 [v] = some l) : ∃ z, v = .int .i64 z ∧ (Lit.int .i64 z).wf = true ∧ l = [.int .i64 z] := by
  unfold Program.keyLits at h
  rw [Tryz.underlying3] at h
  cases v <;> simp at h
  obtain ⟨⟨rfl, hw⟩, rfl⟩ := h
  exact ⟨_, rfl, hw, rfl⟩
theorem keyOf_inv {v : Value} {l : Lit} (h : keyOf Tryz.prog 32 v = some l) : ∃ k : Ky, KI k ∧ v = .agg #[.int .i64 k.1, .int .i64 k.2] ∧ l = klit k := by
  have c1 : Tryz.prog.cellsOf 3 = 1 := by kernel_rfl
  obtain ⟨n, hn⟩ := Tryz.types10
  unfold keyOf at h
  simp only [Tryz.underlying32, Tryz.keyT10, Bool.true_and, hn] at h
  split at h
  · rename_i hf
    unfold Value.formed at hf
    split at hf
    · rename_i cs
      simp only [Tryz.underlying32, Tryz.cells10, beq_iff_eq] at hf
      obtain ⟨v0, v1, e⟩ := list2 (l := cs.toList) (by simpa using hf)
      have hcs : cs = #[v0, v1] := by
        apply Array.ext'
        simpa using e
      subst hcs
      unfold Program.keyLits at h
      simp [Tryz.underlying32, Tryz.cells10, c1, Value.cells, Option.bind_eq_some_iff] at h
      obtain ⟨l0, h0, _, ⟨l1, h1, rfl⟩, rfl⟩ := h
      obtain ⟨z0, rfl, w0, rfl⟩ := lits1 h0
      obtain ⟨z1, rfl, w1, rfl⟩ := lits1 h1
      refine ⟨(z0, z1), ⟨?_, ?_⟩, rfl, rfl⟩
      · simpa [Lit.wf, IntKind.min, IntKind.max, IntKind.signed, IntKind.bits, I64] using w0
      · simpa [Lit.wf, IntKind.min, IntKind.max, IntKind.signed, IntKind.bits, I64] using w1
    · cases hf
    · simp [Tryz.underlying32] at hf
  · cases h
theorem klit_inj {a b : Ky} (ha : KI a) (hb : KI b) (e : klit a = klit b) : a = b := by
  have h1 := keyOf_k ha
  have h2 := keyOf_k hb
  rw [e] at h1
  have h3 := lawK.inj h1 h2
  simp only [Value.agg.injEq, Array.mk.injEq, List.cons.injEq, Value.int.injEq, true_and, and_true] at h3
  exact Prod.ext h3.1 h3.2
theorem klit_key (k : Ky) : WideAt.IsKeyLit (klit k) := trivial
theorem klit_same {a b : Ky} (ha : KI a) (hb : KI b) : (klit a).sameKey (klit b) = decide (a = b) := by
  by_cases h : a = b
  · subst h
    rw [WideAt.sameKey_self (klit_key a), decide_eq_true rfl]
  · rw [sameKey_ne (fun e => h (klit_inj ha hb e)), decide_eq_false h]

/-! ### Counts -/
abbrev Dw : Type := DataW Unit
/-- How often each of ks is there. -/
structure CountD (D : Dw) (ks : List Ky) : Prop where
  fit : ∀ k ∈ ks, KI k
  times : ∀ k, KI k → D.atKey (klit k) (.lit (.int .i64 0)) = .lit (.int .i64 (ks.count k : Nat))
  has : ∀ k, KI k → Maps.has D (klit k) = decide (k ∈ ks)
  size : Maps.size D = (sortR ks).length
theorem CountD.nil : CountD (.map []) [] := ⟨by simp, fun k _ => rfl, fun k _ => rfl, rfl⟩
theorem CountD.snoc {D : Dw} {ks : List Ky} (h : CountD D ks) (hD : Tidy D) {x : Ky} (hx : KI x) : CountD (D.put (klit x) (.lit (.int .i64 ((ks.count x : Nat) + 1)))) (ks ++ [x]) := by
  refine ⟨fun k hk => ?_, fun k hk => ?_, fun k hk => ?_, ?_⟩
  · rw [List.mem_append, List.mem_singleton] at hk
    exact hk.elim (h.fit k) (fun e => e ▸ hx)
  · by_cases e : k = x
    · subst e
      rw [atKey_put_same hD.isMap (klit_key k)]
      simp
    · rw [atKey_put_other (fun e' => e (klit_inj hk hx e')), h.times k hk, List.count_append, List.count_cons]
      have : (x == k) = false := by simpa using fun e' => e e'.symm
      simp [this]
  · by_cases e : k = x
    · subst e
      rw [has_put_same hD.isMap (klit_key k)]
      simp
    · rw [has_put_other (fun e' => e (klit_inj hk hx e')), h.has k hk]
      simp [e]
  · rw [size_put hD, h.has x hx, h.size, sortR_snoc, ins_len]
    by_cases hm : x ∈ ks
    · simp [hm, sortR_mem.2 hm]
    · have hn : x ∉ sortR ks := fun h => hm (sortR_mem.1 h)
      simp [hm, hn]
/-- The map's block, with how often each of ks is there. -/
def MapAt (w : World) (b : Nat) (ks : List Ky) : Prop := ∃ D : Dw, w.ownsMap Tryz.prog 32 (plainElem Tryz.prog 3) b ks.length D ∧ CountD D ks
theorem MapAt.lt {w : World} {b : Nat} {ks : List Ky} (h : MapAt w b ks) : b < w.heap.size := by
  obtain ⟨D, h1, _⟩ := h
  exact h1.lt
theorem MapAt.grown {w w' : World} {b : Nat} {ks : List Ky} {row : Option Nat} (h : MapAt w b ks) (hg : w.grownBy w' row) (hne : some b ≠ row) : MapAt w' b ks := by
  obtain ⟨D, h1, h2⟩ := h
  exact ⟨D, h1.kept hg hne, h2⟩
theorem grown_below {w w' : World} (h : Below w.heap.size w w') : w.grownBy w' none := ⟨h.os, h.tape, h.output, h.size, fun i hi _ => h.block i hi⟩
theorem MapAt.kept {w w' : World} {b : Nat} {ks : List Ky} (h : MapAt w b ks) (hb : Below w.heap.size w w') : MapAt w' b ks := h.grown (grown_below hb) (by simp)
end Go.Proofs.YtjhkcdnfnmglhaaGreatDoor

/- Contract of entry.take: a mapped page off a reading. -/
namespace Go.Proofs.YtjhkcdnfnmglhaaGreatDoor
open Go.RowKit
set_option linter.unusedVariables false

abbrev mval (m : Md) : Value := .agg #[.int .i64 m.h, .int .i64 m.p, .int .i64 m.s, .int .i64 m.g, .int .u32 (m.u : Nat)]
/-- A page out of octets, as the program has it: a number that no key has makes it the zero key's. -/
def recP (zs : List Nat) : Md := ⟨(ofK (getO (zs.take 4))).1, (ofK (getO (zs.take 4))).2, getO ((zs.drop 4).take 4), getO ((zs.drop 8).take 6), (getO ((zs.drop 14).take 4)).toNat⟩
theorem oct_can {zs : List Nat} {k : Nat} (h : k ≤ zs.length) : (RS.mk zs false).oct k = zs.take k ∧ (RS.mk zs false).off k = ⟨zs.drop k, false⟩ := by
  have hc : (RS.mk zs false).can k = true := RS.can_iff.2 ⟨rfl, h⟩
  exact ⟨if_pos hc, if_pos hc⟩
theorem Tryz.sizeM11 : (Tryz.prog.info? 56).map (·.size) = some 5 := by kernel_rfl
theorem range_five {w : World} {X : Nat} {C : Array Value} {T : TypeId} {r : Nat × Nat} (h : w.heap[X]? = some (.cells C T r)) : w.rangeAt X 0 C.toList := fun j v hj => by
  rw [cell_of_row w X _ _ _ _ h, Nat.zero_add]
  simpa using hj
theorem there_five {w : World} {X n : Nat} {C : Array Value} {T : TypeId} (h : w.heap[X]? = some (.cells C T (0, 0))) (hn : n ≤ C.size) : w.there X 0 n := fun j hj => by
  rw [Nat.zero_add]
  refine ⟨?_, by simp [World.frozen?, h]⟩
  rw [cell_of_row w X _ _ _ _ h, Array.getElem?_eq_getElem (by omega)]
  rfl
theorem load_mval {w : World} {b : Nat} {m : Md} (h : w.rangeAt b 0 (encM m)) : (loadVar 56 ⟨b, 0, none⟩).run Tryz.prog w = .ok (mval m) w :=
  run_loadVar_mid (P := Tryz.prog) _ b 0 56 (encM m) _ h Tryz.underlying56 rfl Tryz.sizeM11
theorem wrapU32 {u : Nat} (h : u < 4294967296) : IntKind.u32.wrap (u : Int) = (u : Int) := by rw [IntKind.wrap_u32]; omega
theorem nat_of_bd {z : Int} (h : 0 ≤ z ∧ z < 4294967296) : ∃ u : Nat, z = (u : Int) ∧ u < 4294967296 := ⟨z.toNat, by omega, by omega⟩

end Go.Proofs.YtjhkcdnfnmglhaaGreatDoor

/- 'm[k]++' on a map whose keys are read by a law: the entry, the look-up beside it, the store. -/
namespace Go.Proofs.YtjhkcdnfnmglhaaGreatDoor
open Go.RowKit Go.Maps Go.ChangeShapes Go.WideShapes Go.MapKept Go.ChangeMaps Go.WideElems
open Go.WideMaps (KeyLaw)
set_option linter.unusedVariables false
set_option maxRecDepth 20000

theorem entry_inc {H : Type} {P : Program} {w : World} {t k e : TypeId} {R : Value → Option (DataW H × List MemPlace)} {b : Nat} {es : Array MapEntry} {clock : Nat} (K : KeyLaw P k) (ht : P.underlying t = some (.map k e)) {z : Value} (hz : ∀ u : World, (zeroValue e).run P u = .ok z u) (hb : w.heap[b]? = some (.map es clock)) (F : Fit P k R es clock)
    {key : Value} {kl : Lit} (hkey : keyOf P k key = some kl) :
    ∃ (v0 : Value) (st : Nat) (es1 : Array MapEntry) (clock1 : Nat), (Instr.lookup t (.map (some b)) key false).run P w = .ok v0 w ∧ (Instr.mapEntry t (.map (some b)) key).run P w = .ok (.tuple #[v0, goInt st]) (setBlock w b (.map es1 clock1)) ∧
      (Instr.mapUpdate t (.map (some b)) key v0).run P w = .ok () (setBlock w b (.map es1 clock1)) ∧
      ∀ (w2 : World) (val : Value), w2.heap[b]? = some (.map es1 clock1) → ∃ es' clock', (Instr.entryStore t (.map (some b)) (goInt st) val).run P w2 = .ok () (setBlock w2 b (.map es' clock')) ∧
        (Instr.mapUpdate t (.map (some b)) key val).run P w = .ok () (setBlock w b (.map es' clock')) := by
  obtain ⟨s1, s2, _⟩ := F.stamped
  rcases K.find w hkey es.toList F.keys with ⟨h1, h2⟩ | ⟨j, e0, h1, h2, h3⟩
  · refine ⟨z, clock, es.push ⟨key, z, clock⟩, clock + 1, ?_, ?_, ?_, fun w2 val hw2 => ⟨es.push ⟨key, val, clock⟩, clock + 1, ?_, ?_⟩⟩
    · simp [Instr.lookup, run_underlying ht, MapKept.run_getObj_map hb, K.check w _ hkey, h1, hz, Result.andThen]
    · simp [Instr.mapEntry, run_underlying ht, MapKept.run_getObj_map hb, K.check w false hkey, h1, hz, MapKept.run_setObj_map _ hb, Result.andThen, setBlock]
    · simp [Instr.mapUpdate, run_underlying ht, MapKept.run_getObj_map hb, K.check w false hkey, h1, MapKept.run_setObj_map _ hb, Result.andThen, setBlock]
    · have hidx : (es.push ⟨key, z, clock⟩).findIdx? (fun e => ((e.born : Nat) : Int) == ((clock : Nat) : Int)) = some es.size := by
        rw [findIdx_arr]
        have := findIdx_born (l := (es.push ⟨key, z, clock⟩).toList) (j := es.size) (e0 := ⟨key, z, clock⟩) (by
          simp only [Array.toList_push, List.map_append, List.map_cons, List.map_nil]
          refine List.nodup_append.2 ⟨s2, by simp, fun a ha c hc e1 => ?_⟩
          simp only [List.mem_singleton] at hc
          obtain ⟨x, hx, rfl⟩ := List.mem_map.1 ha
          have := s1 x hx
          omega) (by simp)
        exact this
      have hmod : (es.push ⟨key, z, clock⟩).modify es.size (fun e => { e with val := val }) = es.push ⟨key, val, clock⟩ := by
        apply Array.ext'
        rw [Array.toList_modify, Array.toList_push, Array.toList_push, ← Array.length_toList, modify_last]
      simp [Instr.entryStore, MapKept.run_getObj_map hw2, asInt, asIntOf, goInt, hidx, hmod, MapKept.run_setObj_map _ hw2, Result.andThen, setBlock]
    · simp [Instr.mapUpdate, run_underlying ht, MapKept.run_getObj_map hb, K.check w false hkey, h1, MapKept.run_setObj_map _ hb, Result.andThen, setBlock]
  · have hj : es[j]? = some e0 := by simpa using h2
    have hsame : es.modify j (fun e => { e with key := key }) = es := by
      apply Array.ext'
      rw [Array.toList_modify, ChangeMaps.modify_eq_set _ _ _ _ h2]
      have : ({ e0 with key := key } : MapEntry) = e0 := by rw [← h3]
      rw [this]
      exact set_self _ _ _ h2
    have hsame2 : es.modify j (fun e' => { e' with key := key, val := e0.val }) = es := by
      apply Array.ext'
      rw [Array.toList_modify, ChangeMaps.modify_eq_set _ _ _ _ h2]
      have : ({ e0 with key := key, val := e0.val } : MapEntry) = e0 := by rw [← h3]
      rw [this]
      exact set_self _ _ _ h2
    refine ⟨e0.val, e0.born, es, clock, ?_, ?_, ?_, fun w2 val hw2 => ⟨es.modify j (fun e' => { e' with key := key, val := val }), clock, ?_, ?_⟩⟩
    · simp [Instr.lookup, run_underlying ht, MapKept.run_getObj_map hb, K.check w _ hkey, h1, Result.andThen]
    · simp [Instr.mapEntry, run_underlying ht, MapKept.run_getObj_map hb, K.check w false hkey, h1, hj, h3, K.stays w hkey, hsame, MapKept.run_setObj_map _ hb, Result.andThen, setBlock]
    · simp [Instr.mapUpdate, run_underlying ht, MapKept.run_getObj_map hb, K.check w false hkey, h1, hj, h3, K.stays w hkey, hsame2, MapKept.run_setObj_map _ hb, Result.andThen, setBlock]
    · have hidx : es.findIdx? (fun e => ((e.born : Nat) : Int) == ((e0.born : Nat) : Int)) = some j := by
        rw [findIdx_arr]
        exact findIdx_born s2 h2
      have hmod : es.modify j (fun e => { e with val := val }) = es.modify j (fun e' => { e' with key := key, val := val }) := by
        apply Array.ext'
        rw [Array.toList_modify, Array.toList_modify, ChangeMaps.modify_eq_set _ _ _ _ h2, ChangeMaps.modify_eq_set _ _ _ _ h2, ← h3]
      simp [Instr.entryStore, MapKept.run_getObj_map hw2, asInt, asIntOf, goInt, hidx, hmod, MapKept.run_setObj_map _ hw2, Result.andThen, setBlock]
    · simp [Instr.mapUpdate, run_underlying ht, MapKept.run_getObj_map hb, K.check w false hkey, h1, hj, h3, K.stays w hkey, MapKept.run_setObj_map _ hb, Result.andThen, setBlock]

theorem keyLaw10 : KeyLaw Tryz.prog 32 := deep_law_laid Tryz.laid10 (m := 2) (by omega) Tryz.rowK10 (by kernel_rfl) Tryz.wideK10
theorem zeroE10 (w : World) : (zeroValue 3).run Tryz.prog w = .ok (.int .i64 0) w := by kernel_rfl
theorem wf64 {c : Int} (h : I64 c) : (Lit.int .i64 c).wf = true := by
  simpa [Lit.wf, IntKind.min, IntKind.max, IntKind.signed, IntKind.bits, I64] using h
theorem count_len (ks : List Ky) (x : Ky) : ks.count x ≤ ks.length := List.count_le_length
theorem MapAt.look {w : World} {b : Nat} {ks : List Ky} (h : MapAt w b ks) {x : Ky} (hx : KI x) :
    (Instr.lookup 124 (.map (some b)) (.agg #[.int .i64 x.1, .int .i64 x.2]) false).run Tryz.prog w = .ok (.int .i64 (ks.count x : Nat)) w := by
  obtain ⟨D, h1, h2⟩ := h
  obtain ⟨c, hr, hat, _⟩ := h1.lookup_int lawK Tryz.underlying124 Tryz.underlying3 (zeroE10 _) (keyOf_k hx)
  rw [h2.times x hx] at hat
  simp only [DataW.lit.injEq, Lit.int.injEq, true_and] at hat
  rw [hr, hat]
/-- 'm[k]++', step by step. -/
theorem MapAt.inc {w : World} {b : Nat} {ks : List Ky} (h : MapAt w b ks) {x : Ky} (hx : KI x) (hl : ks.length < 1000000) :
    ∃ (st : Int) (w1 w2 : World), (Instr.mapEntry 124 (.map (some b)) (.agg #[.int .i64 x.1, .int .i64 x.2])).run Tryz.prog w = .ok (.tuple #[.int .i64 (ks.count x : Nat), .int .i64 st]) w1 ∧ w.grownBy w1 (some b) ∧
      (Instr.lookup 124 (.map (some b)) (.agg #[.int .i64 x.1, .int .i64 x.2]) false).run Tryz.prog w1 = .ok (.int .i64 (ks.count x : Nat)) w1 ∧
      (Instr.entryStore 124 (.map (some b)) (.int .i64 st) (.int .i64 (((ks.count x : Nat) : Int) + 1))).run Tryz.prog w1 = .ok () w2 ∧ MapAt w2 b (ks ++ [x]) ∧ w.grownBy w2 (some b) := by
  have hlook := h.look hx
  obtain ⟨D, hown, hD⟩ := h
  have hcl := count_len ks x
  have hTidy : Tidy D := by
    obtain ⟨es, e1, e2, _⟩ := hown.entries lawK
    exact ⟨es, e1, e2⟩
  have hmx : ks.length < maxLen := by unfold maxLen; omega
  have hown0 := hown
  obtain ⟨es, clock, hb, F, hs, hDe⟩ := hown
  obtain ⟨v0, st, es1, clock1, k1, k2, k3, k4⟩ := entry_inc keyLaw10 Tryz.underlying124 (zeroE10) hb F (keyOf_k hx)
  rw [hlook] at k1
  obtain rfl : Value.int .i64 (ks.count x : Nat) = v0 := by
    cases k1; rfl
  obtain ⟨wa, ra, oa, ga⟩ := hown0.update lawK Tryz.underlying124 hmx (keyOf_k hx) (plainElem_int (H := Unit) Tryz.underlying3 (a := (ks.count x : Nat)) (wf64 ⟨by omega, by omega⟩))
  rw [k3] at ra
  obtain rfl : setBlock w b (.map es1 clock1) = wa := by cases ra; rfl
  have hb1 : (setBlock w b (.map es1 clock1)).heap[b]? = some (.map es1 clock1) := heap_setBlock_same hb _
  obtain ⟨es', clock', k5, k6⟩ := k4 _ (.int .i64 (((ks.count x : Nat) : Int) + 1)) hb1
  obtain ⟨wb, rb, ob, gb⟩ := hown0.update lawK Tryz.underlying124 hmx (keyOf_k hx) (plainElem_int (H := Unit) Tryz.underlying3 (a := ((ks.count x : Nat) : Int) + 1) (wf64 ⟨by omega, by omega⟩))
  rw [k6] at rb
  obtain rfl : setBlock w b (.map es' clock') = wb := by cases rb; rfl
  have e1 : setBlock (setBlock w b (.map es1 clock1)) b (.map es' clock') = setBlock w b (.map es' clock') := by simp [setBlock]
  rw [e1] at k5
  refine ⟨(st : Int), _, _, k2, ga, ?_, k5, ⟨_, ?_, hD.snoc hTidy hx⟩, gb⟩
  · obtain ⟨c, hr, hat, _⟩ := oa.lookup_int lawK Tryz.underlying124 Tryz.underlying3 (zeroE10 _) (keyOf_k hx)
    rw [atKey_put_same hTidy.isMap (klit_key x)] at hat
    simp only [DataW.lit.injEq, Lit.int.injEq, true_and] at hat
    rw [hr, ← hat]
  · rw [List.length_append]
    exact ob
end Go.Proofs.YtjhkcdnfnmglhaaGreatDoor

/- Count of package key. -/
namespace Go.Proofs.YtjhkcdnfnmglhaaGreatDoor
open Go.RowKit Go.Maps
set_option linter.unusedVariables false
set_option maxRecDepth 20000

theorem MapAt.made (w : World) : MapAt (w.alloc (.map #[] 0)) w.heap.size [] :=
  ⟨_, World.ownsMap_made _ _ _ _, CountD.nil⟩
theorem MapAt.drew {w : World} {b : Nat} {ks : List Ky} (h : MapAt w b ks) : MapAt w.drew b ks := h.kept ⟨rfl, rfl, rfl, Nat.le_refl _, fun _ _ => rfl⟩
set_option maxRecDepth 20000 in
set_option maxHeartbeats 1000000 in
theorem keyCount_any (w : World) (v : Value) (ks : List Ky) (hv : Keys w v ks) (hl : ks.length ≤ 1000) :
    Calls Tryz.prog 79 #[v] w fun e w' => e = .returned (.map (some w.heap.size)) ∧ MapAt w' w.heap.size ks ∧ Below w.heap.size w w' := by
  obtain ⟨a, ca, rfl⟩ := hv.shape
  obtain ⟨n, hn⟩ : ∃ n, n = ks.length := ⟨_, rfl⟩
  rw [← hn] at hv hl ⊢
  have HN : Hid (n = ks.length) := hn
  have HV : Hid (Keys w (.slice a n ca) ks) := hv
  clear hn hv
  have hmm := @run_makeMap Tryz.prog
  go_enter Tryz.func79, Tryz.ntmps79
  go_wp2_with fail
  clear hmm
  have HM0 : Hid (MapAt (w.alloc (.map #[] 0)) w.heap.size []) := MapAt.made w
  have HB0 : Hid (Below w.heap.size w (w.alloc (.map #[] 0))) := (Below.refl _ _).alloc (Nat.le_refl _) _
  go_loopw [9] (fun i wr => ∃ k : Nat, i = .int .i64 (k : Nat) ∧ k ≤ n ∧ Hid (MapAt wr w.heap.size (ks.take k)) ∧ Hid (Below w.heap.size w wr)) (fun i _ => n - (intOf i).toNat)
  case atStart => exact ⟨0, rfl, Nat.zero_le _, HM0.out, HB0.out⟩
  case round =>
    obtain ⟨k, rfl, hk, HM, HB⟩ := hrel
    clear HM0 HB0
    by_cases hlt : k < n
    · obtain ⟨b, off, rfl, hb, hc⟩ := HV.out.addr (by omega)
      obtain ⟨h, p, hkk⟩ := key_at (ks := ks) (j := k) (by rw [← HN.out]; exact hlt)
      have c0 : wr.cell? ⟨b, off + k * 2, none⟩ = some (.int .i64 h) := (HB.out.cell (p := ⟨b, off + k * 2, none⟩) hb).trans (hc k _ hkk).1
      have c1 : wr.cell? ⟨b, off + k * 2 + 1, none⟩ = some (.int .i64 p) := (HB.out.cell (p := ⟨b, off + k * 2 + 1, none⟩) hb).trans (hc k _ hkk).2
      have HI : Hid (KI (h, p)) := HV.out.fit hkk
      have HS : Hid (ks.take (k + 1) = ks.take k ++ [(h, p)]) := take_snocA hkk
      have HC : Hid ((ks.take k).length ≤ 1000) := by unfold Hid; rw [List.length_take]; omega
      clear hc hb hkk
      obtain ⟨W, hW⟩ : ∃ W, W = (wr.alloc (.cells #[.int .i64 h, .int .i64 p] 32)).drew := ⟨_, rfl⟩
      have HMW : Hid (MapAt W w.heap.size (ks.take k)) := by rw [hW]; exact (HM.out.kept ((Below.refl _ _).alloc (Nat.le_refl _) _)).drew
      have HBW : Hid (Below w.heap.size w W) := by rw [hW]; exact HB.out.alloc HB.out.size _ |>.trans ⟨rfl, rfl, rfl, Nat.le_refl _, fun _ _ => rfl⟩
      have hlk := HMW.out.look HI.out
      obtain ⟨st, W1, W2, e1, g1, e2, e3, m3, g3⟩ := HMW.out.inc HI.out (by have := HC.out; omega)
      have d0 : W.cell? ⟨wr.heap.size, 0, none⟩ = some (.int .i64 h) := by rw [hW]; simp
      have d1 : W.cell? ⟨wr.heap.size, 1, none⟩ = some (.int .i64 p) := by rw [hW]; simp
      have hcb : (ks.take k).count (h, p) ≤ 1000 := Nat.le_trans (count_len _ _) HC.out
      simp only at hlk e1 e2
      have HM3 : Hid (MapAt W2 w.heap.size (ks.take (k + 1))) := by rw [HS.out]; exact m3
      have HB3 : Hid (Below w.heap.size w W2) := HBW.out.grown g3 HBW.out.size (fun j hj => by cases hj; exact Nat.le_refl _)
      clear m3 g3 g1 HM HB HMW HC HS HI
      generalize (ks.take k).count (h, p) = c at *
      subst hW
      go_wp2_with fail
      go_region
      all_goals go_wp2
      all_goals exact ⟨⟨k + 1, by go_num, by omega, HM3.out, HB3.out⟩, by simp [intOf]; omega⟩
    · have HMk : Hid (MapAt wr w.heap.size ks) := by
        have h1 := HM.out
        rwa [List.take_of_length_le (by rw [← HN.out]; omega)] at h1
      go_wp2
      go_ret
      exact ⟨rfl, HMk.out, HB.out⟩
end Go.Proofs.YtjhkcdnfnmglhaaGreatDoor

/- A contract of the library laid at this dump, in plain words. -/
namespace Go.Proofs.YtjhkcdnfnmglhaaGreatDoor
open Go.Shelf Go.Proofs
def Tryz.sortK_ren : Go.Shelf.Ren := ⟨fun | 6 => 80 | 15 => 73 | 14 => 103 | 28 => 92 | 29 => 93 | 20 => 116 | 21 => 117 | 22 => 118 | 23 => 119 | 24 => 120 | 25 => 121 | 26 => 122 | 27 => 123 | 46 => 128 | 47 => 109 | 48 => 110 | 49 => 129 | 50 => 130 | 57 => 131 | n => n, fun | 22 => 54 | 24 => 32 | 25 => 127 | 3 => 3 | 39 => 116 | 0 => 0 | 53 => 33 | 55 => 122 | 4 => 4 | 46 => 131 | 45 => 130 | 50 => 136 | 5 => 5 | 9 => 9 | 66 => 148 | 70 => 152 | 76 => 161 | 77 => 80 | n => n, fun | n => n⟩
theorem Tryz.sortK : Go.Proofs.SlLaysF0.n6 Tryz.prog Tryz.sortK_ren := {
  mixed := by kernel_rfl
  f6 := ⟨Tryz.f80.name, by decide, Tryz.func80.trans (congrArg some (by kernel_rfl))⟩
  f14 := ⟨Tryz.f103.name, by decide, Tryz.func103.trans (congrArg some (by kernel_rfl))⟩
  f15 := Tryz.func73.trans (congrArg some (by kernel_rfl))
  f20 := ⟨Tryz.f116.name, by decide, Tryz.func116.trans (congrArg some (by kernel_rfl))⟩
  f21 := ⟨Tryz.f117.name, by decide, Tryz.func117.trans (congrArg some (by kernel_rfl))⟩
  f22 := ⟨Tryz.f118.name, by decide, Tryz.func118.trans (congrArg some (by kernel_rfl))⟩
  f23 := ⟨Tryz.f119.name, by decide, Tryz.func119.trans (congrArg some (by kernel_rfl))⟩
  f24 := ⟨Tryz.f120.name, by decide, Tryz.func120.trans (congrArg some (by kernel_rfl))⟩
  f25 := ⟨Tryz.f121.name, by decide, Tryz.func121.trans (congrArg some (by kernel_rfl))⟩
  f26 := ⟨Tryz.f122.name, by decide, Tryz.func122.trans (congrArg some (by kernel_rfl))⟩
  f27 := ⟨Tryz.f123.name, by decide, Tryz.func123.trans (congrArg some (by kernel_rfl))⟩
  f28 := Tryz.func92.trans (congrArg some (by kernel_rfl))
  f29 := Tryz.func93.trans (congrArg some (by kernel_rfl))
  f46 := ⟨Tryz.f128.name, by decide, Tryz.func128.trans (congrArg some (by kernel_rfl))⟩
  f47 := Tryz.func109.trans (congrArg some (by kernel_rfl))
  f48 := Tryz.func110.trans (congrArg some (by kernel_rfl))
  f49 := ⟨Tryz.f129.name, by decide, Tryz.func129.trans (congrArg some (by kernel_rfl))⟩
  f50 := ⟨Tryz.f130.name, by decide, Tryz.func130.trans (congrArg some (by kernel_rfl))⟩
  f57 := ⟨Tryz.f131.name, by decide, Tryz.func131.trans (congrArg some (by kernel_rfl))⟩
  t0 := Tryz.underlying0
  a0 := Tryz.isAgg0
  z0 := Tryz.sizeOf0
  v0 := Tryz.zeroValue0
  t3 := Tryz.underlying3
  a3 := Tryz.isAgg3
  z3 := Tryz.sizeOf3
  v3 := Tryz.zeroValue3
  t4 := Tryz.underlying4
  a4 := Tryz.isAgg4
  z4 := Tryz.sizeOf4
  v4 := Tryz.zeroValue4
  t5 := Tryz.underlying5
  a5 := Tryz.isAgg5
  z5 := Tryz.sizeOf5
  v5 := Tryz.zeroValue5
  t9 := Tryz.underlying9
  a9 := Tryz.isAgg9
  z9 := Tryz.sizeOf9
  v9 := Tryz.zeroValue9
  t22 := Tryz.underlying54
  a22 := Tryz.isAgg54
  z22 := Tryz.sizeOf54
  v22 := Tryz.zeroValue54
  t25 := Tryz.underlying127
  a25 := Tryz.isAgg127
  z25 := Tryz.sizeOf127
  v25 := Tryz.zeroValue127
  t39 := Tryz.underlying116
  a39 := Tryz.isAgg116
  z39 := Tryz.sizeOf116
  v39 := Tryz.zeroValue116
  t45 := Tryz.underlying130
  a45 := Tryz.isAgg130
  z45 := Tryz.sizeOf130
  v45 := Tryz.zeroValue130
  t46 := Tryz.underlying131
  a46 := Tryz.isAgg131
  z46 := Tryz.sizeOf131
  v46 := Tryz.zeroValue131
  t50 := Tryz.underlying136
  a50 := Tryz.isAgg136
  z50 := Tryz.sizeOf136
  v50 := Tryz.zeroValue136
  t53 := Tryz.underlying33
  a53 := Tryz.isAgg33
  z53 := Tryz.sizeOf33
  v53 := Tryz.zeroValue33
  t55 := Tryz.underlying122
  a55 := Tryz.isAgg122
  z55 := Tryz.sizeOf122
  v55 := Tryz.zeroValue122
  t66 := Tryz.underlying148
  a66 := Tryz.isAgg148
  z66 := Tryz.sizeOf148
  v66 := Tryz.zeroValue148
  t70 := Tryz.underlying152
  a70 := Tryz.isAgg152
  z70 := Tryz.sizeOf152
  v70 := Tryz.zeroValue152
  t76 := Tryz.underlying161
  a76 := Tryz.isAgg161
  z76 := Tryz.sizeOf161
  v76 := Tryz.zeroValue161
  t77 := Tryz.underlying80
  a77 := Tryz.isAgg80
  z77 := Tryz.sizeOf80
  v77 := Tryz.zeroValue80 }
end Go.Proofs.YtjhkcdnfnmglhaaGreatDoor

/- order of package key, over cmp.Or and cmp.Compare. -/
namespace Go.Proofs.YtjhkcdnfnmglhaaGreatDoor
open Go.RowKit Go.Shelf Go.Lib Go.Sort
set_option linter.unusedVariables false

/-- How two stand. -/
def cmpI (a b : Int) : Int := if a < b then -1 else if b < a then 1 else 0
theorem cmpI_le (a b : Int) : -1 ≤ cmpI a b ∧ cmpI a b ≤ 1 := by
  unfold cmpI
  split
  · omega
  · split <;> omega
theorem isNaN_any (a : Int) (w : World) :
    Calls Tryz.prog 78 #[.int .i64 a] w fun e w' => e = .returned (.bool false) ∧ w' = w := by
  go_enter Tryz.func78, Tryz.ntmps78
  go_wp2
  go_ret
  exact ⟨by simp, rfl⟩
theorem compare_any (a b : Int) (w : World) :
    Calls Tryz.prog 68 #[.int .i64 a, .int .i64 b] w fun e w' => e = .returned (.int .i64 (cmpI a b)) ∧ w' = w := by
  have HNA : Hid (∀ x W, Calls Tryz.prog 78 #[.int .i64 x] W fun e w' => e = .returned (.bool false) ∧ w' = W) := isNaN_any
  by_cases h1 : a < b
  · have HC : Hid (cmpI a b = -1) := by unfold Hid cmpI; rw [if_pos h1]
    go_enter Tryz.func68, Tryz.ntmps68
    go_wp2_with (go_at_call 78; refine (HNA.out _ _).mono ?_; rintro e1 w1 ⟨rfl, rfl⟩)
    go_ret
    exact ⟨ret_int HC.out.symm, rfl⟩
  · have h1' : (a < b) = False := eq_false h1
    by_cases h2 : b < a
    · have HC : Hid (cmpI a b = 1) := by unfold Hid cmpI; rw [if_neg h1, if_pos h2]
      go_enter Tryz.func68, Tryz.ntmps68
      go_wp2_with (go_at_call 78; refine (HNA.out _ _).mono ?_; rintro e1 w1 ⟨rfl, rfl⟩)
      go_ret
      exact ⟨ret_int HC.out.symm, rfl⟩
    · have h2' : (b < a) = False := eq_false h2
      have HC : Hid (cmpI a b = 0) := by unfold Hid cmpI; rw [if_neg h1, if_neg h2]
      go_enter Tryz.func68, Tryz.ntmps68
      go_wp2_with (go_at_call 78; refine (HNA.out _ _).mono ?_; rintro e1 w1 ⟨rfl, rfl⟩)
      go_ret
      exact ⟨ret_int HC.out.symm, rfl⟩
def orI (x y : Int) : Int := if x = 0 then y else x
theorem or_any (b : Nat) (x y : Int) (w : World) (c0 : w.cell? ⟨b, 0, none⟩ = some (.int .i64 x)) (c1 : w.cell? ⟨b, 1, none⟩ = some (.int .i64 y)) :
    Calls Tryz.prog 104 #[.slice (some ⟨b, 0, none⟩) 2 2] w fun e w' => e = .returned (.int .i64 (orI x y)) ∧ w' = w := by
  by_cases h1 : x = 0
  · subst h1
    by_cases h2 : y = 0
    · subst h2
      have HC : Hid (orI 0 0 = 0) := rfl
      go_enter Tryz.func104, Tryz.ntmps104
      go_wp2
      refine wp_loop_rounds 3 ?_
      rw [rounds_succ]
      go_wp2
      rw [rounds_succ]
      go_wp2
      rw [rounds_succ]
      go_wp2
      go_ret
      exact ⟨ret_int HC.out.symm, rfl⟩
    · have HC : Hid (orI 0 y = y) := by unfold Hid orI; rw [if_pos rfl]
      have hne : (y != 0) = true := by simpa using h2
      go_enter Tryz.func104, Tryz.ntmps104
      go_wp2
      refine wp_loop_rounds 3 ?_
      rw [rounds_succ]
      go_wp2
      rw [rounds_succ]
      go_wp2
      go_ret
      exact ⟨ret_int HC.out.symm, rfl⟩
  · have HC : Hid (orI x y = x) := by unfold Hid orI; rw [if_neg h1]
    have hne : (x != 0) = true := by simpa using h1
    go_enter Tryz.func104, Tryz.ntmps104
    go_wp2
    refine wp_loop_rounds 3 ?_
    rw [rounds_succ]
    go_wp2
    go_ret
    exact ⟨ret_int HC.out.symm, rfl⟩
/-- How two keys stand. -/
def cmpK (a b : Ky) : Int := orI (cmpI a.1 b.1) (cmpI a.2 b.2)
theorem ltOf_cmpK (a b : Ky) : ltOf cmpK a b = decide (KLt a b) := by
  obtain ⟨a1, a2⟩ := a
  obtain ⟨b1, b2⟩ := b
  unfold ltOf cmpK orI cmpI KLt
  simp only
  by_cases h1 : a1 < b1
  · simp [h1]
  · by_cases h2 : b1 < a1
    · have : ¬ a1 = b1 := by omega
      simp [h1, h2, this]
    · have e : a1 = b1 := by omega
      subst e
      by_cases h3 : a2 < b2
      · simp [h3]
      · by_cases h4 : b2 < a2 <;> simp [h3, h4]
theorem new_two (V : World) (u v : Value) (t : TypeId) (n : Nat) (h : n = V.heap.size) : (V.alloc (.cells #[u, v] t)).drew.cell? ⟨n, 0, none⟩ = some u ∧ (V.alloc (.cells #[u, v] t)).drew.cell? ⟨n, 1, none⟩ = some v := by
  subst h
  exact ⟨by simp, by simp⟩
theorem three_grown (w : World) (a b c : Obj) : ((((w.alloc a).alloc b).alloc c).drew) = grow (w.drewN 1) #[a, b, c] := by
  rw [alloc_eq_grow, alloc_eq_grow, alloc_eq_grow, grow_grow, grow_grow]
  rfl
theorem keep_alloc {W : World} {X i : Nat} {v : Value} (hX : X < W.heap.size) (h : W.cell? ⟨X, i, none⟩ = some v) (o : Obj) : (W.alloc o).drew.cell? ⟨X, i, none⟩ = some v :=
  ((((Below.refl W.heap.size W).alloc (Nat.le_refl _) o)).cell (p := ⟨X, i, none⟩) hX).trans h
set_option maxHeartbeats 1000000 in
theorem order_any (a b : Ky) (w : World) :
    Calls Tryz.prog 81 #[.agg #[.int .i64 a.1, .int .i64 a.2], .agg #[.int .i64 b.1, .int .i64 b.2]] w fun e w' => e = .returned (.int .i64 (cmpK a b)) ∧ ∃ q os', w' = grow (w.drewN q) os' := by
  obtain ⟨a1, a2⟩ := a
  obtain ⟨b1, b2⟩ := b
  simp only
  have HC : Hid (∀ x y W, Calls Tryz.prog 68 #[.int .i64 x, .int .i64 y] W fun e w' => e = .returned (.int .i64 (cmpI x y)) ∧ w' = W) := compare_any
  have HK : Hid (cmpK (a1, a2) (b1, b2) = orI (cmpI a1 b1) (cmpI a2 b2)) := rfl
  rw [HK.out]
  clear HK
  go_enter Tryz.func81, Tryz.ntmps81
  go_wp2_with fail
  obtain ⟨W0, hW⟩ : ∃ W0, W0 = (w.alloc (.cells #[.int .i64 a1, .int .i64 a2] 32)).alloc (.cells #[.int .i64 b1, .int .i64 b2] 32) := ⟨_, rfl⟩
  have c0 : W0.cell? ⟨w.heap.size, 0, none⟩ = some (.int .i64 a1) := by rw [hW]; simp
  have c1 : W0.cell? ⟨w.heap.size, 1, none⟩ = some (.int .i64 a2) := by rw [hW]; simp
  have c2 : W0.cell? ⟨w.heap.size + 1, 0, none⟩ = some (.int .i64 b1) := by rw [hW]; simp
  have c3 : W0.cell? ⟨w.heap.size + 1, 1, none⟩ = some (.int .i64 b2) := by rw [hW]; simp
  have HG : Hid (∀ o, ∃ os', (W0.alloc o).drew = grow (w.drewN 1) os') := fun o => ⟨_, by rw [hW]; exact three_grown _ _ _ _⟩
  have HO : Hid (∀ x y, Calls Tryz.prog 104 #[.slice (some ⟨W0.heap.size, 0, none⟩) 2 2] (W0.alloc (.cells #[.int .i64 x, .int .i64 y] 3)).drew fun e w' => e = .returned (.int .i64 (orI x y)) ∧ w' = (W0.alloc (.cells #[.int .i64 x, .int .i64 y] 3)).drew) := fun x y => or_any _ x y _ (new_two _ _ _ _ _ rfl).1 (new_two _ _ _ _ _ rfl).2
  have hXY : w.heap.size ≠ w.heap.size + 1 := by omega
  rw [← hW]
  have hs0 : w.heap.size < W0.heap.size ∧ w.heap.size + 1 < W0.heap.size := by rw [hW]; simp; omega
  clear hW
  generalize hX : w.heap.size = X at *
  generalize hY : X + 1 = Y at *
  clear hX hY hXY
  go_region_held3 (fun w' => w'.cell? ⟨X, 0, none⟩ = some (.int .i64 a1) ∧ w'.cell? ⟨X, 1, none⟩ = some (.int .i64 a2) ∧ w'.cell? ⟨Y, 0, none⟩ = some (.int .i64 b1) ∧ w'.cell? ⟨Y, 1, none⟩ = some (.int .i64 b2)) (first | exact ⟨c0, c1, c2, c3⟩ | exact ⟨keep_alloc hs0.1 c0 _, keep_alloc hs0.1 c1 _, keep_alloc hs0.2 c2 _, keep_alloc hs0.2 c3 _⟩) (first
    | (go_at_call 68; refine (HC.out _ _ _).mono ?_; rintro e1 w1 ⟨rfl, rfl⟩)
    | (go_at_call 104; refine (HO.out _ _).mono ?_; rintro e1 w1 ⟨rfl, rfl⟩))
  all_goals
    go_wp2
    go_ret
    exact ⟨rfl, 1, HG.out _⟩

/-! ### slices.SortFunc over keys -/
def encKy (k : Ky) : List Value := [.int .i64 k.1, .int .i64 k.2]
theorem orderLays (blk off size : Nat) (w : World) : CmpLays Tryz.prog 81 #[] encKy 2 cmpK blk off size w :=
  fun _ _ _ _ x y => order_any x y _
theorem swoK : SWO (ltOf cmpK) where
  irrefl x := by rw [ltOf_cmpK]; exact decide_eq_false (KLt.irr x)
  trans x y z h1 h2 := by
    rw [ltOf_cmpK] at *
    exact decide_eq_true ((of_decide_eq_true h1).trans (of_decide_eq_true h2))
  ntrans x y z h1 h2 := by
    rw [ltOf_cmpK] at *
    simp only [decide_eq_false_iff_not] at *
    unfold KLt at *
    omega
theorem totK (x y : Ky) (h1 : ltOf cmpK x y = false) (h2 : ltOf cmpK y x = false) : x = y := by
  rw [ltOf_cmpK] at h1 h2
  simp only [decide_eq_false_iff_not] at h1 h2
  rcases Decidable.em (x = y) with e | e
  · exact e
  · exact absurd (klt_or e h1) h2
set_option maxHeartbeats 1000000 in
theorem sortFunc_any (blk off cap : Nat) (d : Array Ky) (w : World) (hH : HoldsK encKy 2 w blk off d) (hblk : blk < w.heap.size) (hsz : d.size < 4611686018427387904) :
    Calls Tryz.prog 80 #[.slice (some ⟨blk, off, none⟩) d.size cap, .func (.func 81) #[] #[]] w fun e w' => e = .returned (.tuple #[]) ∧ ∃ n os, w' = sortWorldK encKy 2 w blk off n (d.toList.mergeSort fun x y => !(ltOf cmpK) y x).toArray os := by
  have eg : ∀ args w, (callFunc 81 args).run Tryz.prog w = .ok (.enter 81 args) w := enters_of Tryz.func81 (by kernel_rfl) rfl
  exact AnyQ.slices_SortFunc_total Tryz.sortK 2 Tryz.isAgg32 Tryz.sizeOf32 encKy (fun _ => rfl) (fun x v hv => by simp [encKy] at hv; rcases hv with rfl | rfl <;> rfl) cmpK swoK 81 #[] blk off cap d w eg (orderLays blk off d.size w) hH hblk hsz totK
theorem sortFunc_none (p : Option Addr) (cap : Nat) (fv : Value) (w : World) :
    Calls Tryz.prog 80 #[.slice p 0 cap, fv] w fun e w' => e = .returned (.tuple #[]) ∧ w' = w :=
  AnyF.slices_SortFunc_none Tryz.sortK p cap fv w
end Go.Proofs.YtjhkcdnfnmglhaaGreatDoor

/- Sort of package key: the keys of the map that Count makes, sorted. -/
namespace Go.Proofs.YtjhkcdnfnmglhaaGreatDoor
open Go.RowKit Go.Maps Go.Sort Go.Shelf Go.Lib
set_option linter.unusedVariables false
set_option maxRecDepth 20000

/-! ### What the sort leaves -/
theorem heap_sorted (w : World) (blk off n : Nat) (d : Array Ky) (os : Array Obj) : w.grownBy (sortWorldK encKy 2 w blk off n d os) (some blk) := by
  refine ⟨rfl, rfl, rfl, ?_, fun i hi hne => ?_⟩
  · simp [sortWorldK, putRowK, putRow, mapBlock, Sort.grow]
  · have hne' : blk ≠ i := fun e => hne (by rw [e])
    simp only [sortWorldK, Sort.grow, putRowK, putRow, mapBlock]
    rw [Array.getElem?_append_left (by simpa using hi), Array.getElem?_modify, if_neg hne']
    rfl
theorem flat_at (ks : List Ky) (j : Nat) (hj : j < ks.length * 2) : (flatK encKy 2 ks.toArray)[j]! = (kcells ks)[j]?.getD undef := by
  rw [get_flatK _ _ _ _ (by simpa using hj)]
  have h1 : j / 2 < ks.length := by omega
  have hk : ks[j / 2]? = some ks[j / 2] := List.getElem?_eq_getElem h1
  have hg : (ks.toArray)[j / 2]! = ks[j / 2] := by simp [h1]
  have hc := kcells_at ks (j / 2) _ hk
  rw [hg]
  rcases Nat.mod_two_eq_zero_or_one j with h | h
  · have e : j = j / 2 * 2 := by omega
    rw [h]
    have := hc.1
    rw [← e] at this
    rw [this]
    rfl
  · have e : j = j / 2 * 2 + 1 := by omega
    rw [h]
    have := hc.2
    rw [← e] at this
    rw [this]
    rfl
theorem holds_own {w : World} {g n cap : Nat} {cur : Array Value} {e : TypeId} {ks : List Ky} (hb : w.heap[g]? = some (.cells cur e (0, 0))) (hl : ks.length = n) (h4 : cur.toList.take (n * 2) = kcells ks) : HoldsK encKy 2 w g 0 ks.toArray := by
  intro j hj
  have hj' : j < ks.length * 2 := by simpa using hj
  have hlen := kcells_length ks
  have hat : cur[j]? = some ((kcells ks)[j]?.getD undef) := by
    have h5 : (kcells ks)[j]? = some (kcells ks)[j] := List.getElem?_eq_getElem (by omega)
    rw [h5, Option.getD_some, ← h5, ← h4, List.getElem?_take_of_lt (by omega), Array.getElem?_toList]
  refine ⟨?_, ?_⟩
  · show w.cell? ⟨g, 0 + j, none⟩ = some (id (flatK encKy 2 ks.toArray)[j]!)
    rw [flat_at ks j hj', Nat.zero_add]
    simp [World.cell?, hb, hat]
  · simp [World.frozen?, hb]
theorem keys_held {w : World} {g cap : Nat} {ks : List Ky} (h : HoldsK encKy 2 w g 0 ks.toArray) (hg : g < w.heap.size) (hk : ∀ k ∈ ks, KI k) (h1 : ks.length ≤ cap) (h2 : cap ≤ maxLen) : Keys w (.slice (some ⟨g, 0, none⟩) ks.length cap) ks := by
  refine ⟨hk, Nat.le_trans h1 h2, _, cap, rfl, h1, h2, .inr ⟨_, rfl, .inr ⟨g, 0, rfl, hg, fun j k hj => ?_⟩⟩⟩
  have hjl : j < ks.length := (List.getElem?_eq_some_iff.1 hj).1
  have hget : (ks.toArray)[j]! = k := by
    rw [List.getElem?_eq_getElem hjl] at hj
    simpa [hjl] using hj
  have a := h.cell (i := j) (c := 0) (by simpa using hjl) (by decide)
  have b := h.cell (i := j) (c := 1) (by simpa using hjl) (by decide)
  rw [hget] at a b
  exact ⟨a.1, b.1⟩

/-! ### The order of a sort, and the document's -/
theorem merge_is {ss ks : List Ky} (hn : ss.Nodup) (hm : ∀ k, k ∈ ss ↔ k ∈ ks) : (ss.mergeSort fun x y => !(ltOf cmpK) y x) = sortR ks := by
  have hp := List.mergeSort_perm ss (fun x y => !(ltOf cmpK) y x)
  have ht : ∀ a b c : Ky, (!(ltOf cmpK) b a) = true → (!(ltOf cmpK) c b) = true → (!(ltOf cmpK) c a) = true := by
    intro a b c h1 h2
    rw [ltOf_cmpK] at *
    simp only [Bool.not_eq_true', decide_eq_false_iff_not] at *
    unfold KLt at *
    omega
  have hto : ∀ a b : Ky, ((!(ltOf cmpK) b a) || (!(ltOf cmpK) a b)) = true := by
    intro a b
    rw [ltOf_cmpK, ltOf_cmpK, Bool.or_eq_true]
    simp only [Bool.not_eq_true', decide_eq_false_iff_not]
    unfold KLt
    omega
  have hs := List.pairwise_mergeSort (le := fun x y => !(ltOf cmpK) y x) ht hto ss
  refine rises_same ?_ (sortR_rises ks) fun k => ?_
  · have hnd : (ss.mergeSort fun x y => !(ltOf cmpK) y x).Nodup := hp.nodup_iff.2 hn
    refine (hs.and hnd).imp fun {a b} h => ?_
    obtain ⟨h1, h2⟩ := h
    rw [ltOf_cmpK] at h1
    simp only [Bool.not_eq_true', decide_eq_false_iff_not] at h1
    exact klt_or (fun e => h2 e.symm) h1
  · rw [hp.mem_iff, hm, sortR_mem]

/-! ### The keys met so far -/
structure Met10 (ks : List Ky) (left : Lit → Bool) (ss : List Ky) : Prop where
  nodup : ss.Nodup
  mem : ∀ k, KI k → (k ∈ ss ↔ k ∈ ks ∧ left (klit k) = false)
  fit : ∀ k ∈ ss, KI k
theorem Met10.start {D : Dw} {ks : List Ky} (h : CountD D ks) : Met10 ks (Maps.has D) [] :=
  ⟨List.nodup_nil, fun k hk => by rw [h.has k hk]; simp, by simp⟩
theorem Met10.step {ks : List Ky} {left : Lit → Bool} {ss : List Ky} (h : Met10 ks left ss) {x : Ky} (hx : KI x) (hl : left (klit x) = true) (hin : x ∈ ks) : Met10 ks (fun z => left z && !z.sameKey (klit x)) (ss ++ [x]) := by
  have hno : x ∉ ss := fun h' => by have := ((h.mem x hx).1 h').2; rw [hl] at this; cases this
  refine ⟨?_, fun k hk => ?_, fun k hk => ?_⟩
  · rw [List.nodup_append]
    exact ⟨h.nodup, by simp, fun a ha b hb => by rw [List.mem_singleton.1 hb]; exact fun e => hno (e ▸ ha)⟩
  · rw [List.mem_append, List.mem_singleton, h.mem k hk, klit_same hk hx]
    by_cases e : k = x
    · subst e; simp [hin]
    · simp [e]
  · rw [List.mem_append, List.mem_singleton] at hk
    exact hk.elim (h.fit k) (fun e => e ▸ hx)
theorem Met10.all {ks : List Ky} {left : Lit → Bool} {ss : List Ky} (h : Met10 ks left ss) (hk : ∀ k ∈ ks, KI k) (hl : ∀ l, left l = false) : ∀ k, k ∈ ss ↔ k ∈ ks :=
  fun k => ⟨fun h' => ((h.mem k (h.fit k h')).1 h').1, fun h' => (h.mem k (hk k h')).2 ⟨h', hl _⟩⟩

theorem own_base {w : World} {b b' n z : Nat} {e : TypeId} {v : Value} {xs : List Value} (h : w.ownsRow b e z v n xs) (hb : b' ≤ b) : w.ownsRow b' e z v n xs := by
  refine ⟨h.1, ?_⟩
  rcases h.2 with h2 | ⟨g, cap, cur, h2, h3, h4⟩
  · exact .inl h2
  · exact .inr ⟨g, cap, cur, h2, Nat.le_trans hb h3, h4⟩
theorem Tryz.infoK10 : (Tryz.prog.info? 32).map (fun i => (i.zero, i.size, i.bytes)) = some (some (.agg #[.int .i64 0, .int .i64 0]), 2, 16) := by kernel_rfl
theorem info_k : ∃ i, Tryz.prog.info? 32 = some i ∧ i.zero = some (.agg #[.int .i64 0, .int .i64 0]) ∧ i.size = 2 ∧ i.bytes = 16 := by
  have h := Tryz.infoK10
  cases hi : Tryz.prog.info? 32 with
  | none => rw [hi] at h; simp at h
  | some i =>
    rw [hi] at h
    simp only [Option.map_some, Option.some.injEq, Prod.mk.injEq] at h
    exact ⟨i, rfl, h.1, h.2.1, h.2.2⟩
theorem keys_two {w : World} {k : Ky} (o : Obj) (hz : KI k) (e : TypeId) : Keys ((w.alloc o).alloc (.cells #[.int .i64 k.1, .int .i64 k.2] e)) (.slice (some ⟨w.heap.size + 1, 0, none⟩) 1 1) [k] := by
  have := Keys.one (w := w.alloc o) (e := e) hz
  have e1 : (w.alloc o).heap.size = w.heap.size + 1 := by simp
  rwa [e1] at this
theorem invK10 (key : Value) (kl : Lit) (h : keyOf Tryz.prog 32 key = some kl) : ∃ x : Ky, key = .agg #[.int .i64 x.1, .int .i64 x.2] := by
  obtain ⟨x, _, e, _⟩ := keyOf_inv h
  exact ⟨x, e⟩
theorem invV10 (v : Value) (y : Dw × List MemPlace) (h : plainElem Tryz.prog 3 v = some y) : ∃ c, v = .int .i64 c := by
  obtain ⟨c, rfl, _⟩ := plainElem_int_inv Tryz.underlying3 h
  exact ⟨c, rfl⟩
set_option maxRecDepth 20000 in
set_option maxHeartbeats 2000000 in
theorem sort_any (w : World) (v : Value) (ks : List Ky) (hv : Keys w v ks) (hl : ks.length ≤ 1000) :
    Calls Tryz.prog 69 #[v] w fun e w' => ∃ u, e = .returned u ∧ Keys w' u (sortR ks) ∧ Below w.heap.size w w' ∧ ∀ g, u.ownBlock = some g → w.heap.size ≤ g := by
  have HC : Hid (Calls Tryz.prog 79 #[v] w fun e w' => e = .returned (.map (some w.heap.size)) ∧ MapAt w' w.heap.size ks ∧ Below w.heap.size w w') := keyCount_any w v ks hv hl
  have HK : Hid (∀ k ∈ ks, KI k) := hv.1
  have HL : Hid (ks.length ≤ 1000) := hl
  obtain ⟨i0, hi, hz0, hz1, hz2⟩ := info_k
  clear hv hl
  go_enter Tryz.func69, Tryz.ntmps69
  go_wp2_with fail
  refine HC.out.mono ?_
  rintro e w1 ⟨rfl, ⟨D, hown, hD⟩, hB⟩
  have HB1 : Hid (Below w.heap.size w w1) := hB
  have HD : Hid (CountD D ks) := hD
  have hlt := hown.lt
  have HSZ : Hid (w.heap.size < w1.heap.size) := hlt
  clear hB hD HC hlt
  generalize hX : w.heap.size = X at *
  go_wp2_with (first
    | (at_range; refine wpList_range_own _ rfl _ 124 rfl 32 3 lawK Tryz.underlying124 _ X _ _ rfl hown ?_; intro w0 hrg0 hg0 hs0)
    | go_in)
  go_frame
  generalize hR : w1.heap.size = R at *
  go_loopw [3] (fun v wr => ∃ (left : Lit → Bool) (cnt : Nat) (ss : List Ky), wr.ranges Tryz.prog 32 (plainElem Tryz.prog 3) X R ks.length D left cnt ∧ ss.length + cnt ≤ Maps.size D ∧
      wr.ownsRow (R + 1) 32 2 v ss.length (kcells ss) ∧ Hid (Met10 ks left ss) ∧ Hid (Below X w wr) ∧ R + 1 ≤ wr.heap.size)
    (fun _ wr => wr.rangeLeft X R)
  case atStart =>
    exact ⟨_, _, [], hrg0, by simp, World.ownsRow_nil _ _ _ _, Met10.start HD.out, HB1.out.grown hg0 (by have := HSZ.out; omega) (fun j hj => by cases hj), by omega⟩
  case round =>
    obtain ⟨left, cnt, ss, hrg, hcs, hrow, HM, HB, hsz⟩ := hrel
    have HSD : Hid (Maps.size D ≤ 1000) := by
      unfold Hid
      rw [HD.out.size]
      exact Nat.le_trans (sortR_len ks) HL.out
    have HRG : Hid (wr.ranges Tryz.prog 32 (plainElem Tryz.prog 3) X R ks.length D left cnt) := hrg
    have HRO : Hid (wr.ownsRow (R + 1) 32 2 u3 ss.length (kcells ss)) := hrow
    have HCS : Hid (ss.length + cnt ≤ Maps.size D) := hcs
    have HSW : Hid (R + 1 ≤ wr.heap.size) := hsz
    have HD0 : Hid (w1.ownsMap Tryz.prog 32 (plainElem Tryz.prog 3) X ks.length D) := hown
    clear hrg hrow hcs hsz hown hrg0 hg0 hs0
    go_wp2_with (first
      | (at_next; refine wpList_next_ranges _ rfl _ rfl 32 lawK (plainElem Tryz.prog 3) (fun x : Ky => Value.agg #[.int .i64 x.1, .int .i64 x.2]) (Value.int .i64) invK10 invV10 X R ks.length _ _ _ rfl HRG.out ?_ ?_)
      | go_in)
    · intro hc0 hl0
      have HALL : Hid (∀ k, k ∈ ss ↔ k ∈ ks) := HM.out.all HK.out hl0
      have HIS : Hid ((ss.mergeSort fun x y => !(ltOf cmpK) y x) = sortR ks) := merge_is HM.out.nodup HALL.out
      clear hc0 hl0
      rcases HRO.out.2 with ⟨rfl, hn0⟩ | ⟨g, cap, cur, rfl, hbase, hb, h1, h2, h3, h4⟩
      · have hss : ss = [] := List.eq_nil_of_length_eq_zero hn0
        have HS0 : Hid (sortR ks = []) := by
          have := HIS.out
          rw [hss] at this
          rw [← this]
          simp [Hid]
        have HNO := sortFunc_none none 0 (.func (.func 81) #[] #[]) wr
        clear hss hn0 HIS
        go_wp2_with fail
        refine HNO.mono ?_
        rintro e w5 ⟨rfl, rfl⟩
        go_wp2
        go_ret
        exact ⟨_, rfl, by rw [HS0.out]; exact Keys.nil _, by rw [← hX] at HB; exact HB.out, fun g hg => by simp [Value.ownBlock] at hg⟩
      · have hH : HoldsK encKy 2 wr g 0 ss.toArray := holds_own (cap := cap) hb rfl h4
        have hgl : g < wr.heap.size := (Array.getElem?_eq_some_iff.1 hb).1
        have hlen : ss.length ≤ 1000 := by have := HCS.out; have := HSD.out; omega
        have HF : Hid (Calls Tryz.prog 80 #[.slice (some ⟨g, 0, none⟩) ss.length cap, .func (.func 81) #[] #[]] wr fun e w' => e = .returned (.tuple #[]) ∧ ∃ n os, w' = sortWorldK encKy 2 wr g 0 n (sortR ks).toArray os) := by
          have := sortFunc_any g 0 cap ss.toArray wr hH hgl (by simp; omega)
          rw [List.size_toArray] at this
          rw [← HIS.out]
          exact this
        have HLE : Hid ((sortR ks).length = ss.length) := by
          rw [← HIS.out]
          exact List.length_mergeSort _
        have HE : Hid (∀ n os, Keys (sortWorldK encKy 2 wr g 0 n (sortR ks).toArray os) (.slice (some ⟨g, 0, none⟩) ss.length cap) (sortR ks) ∧ Below X w (sortWorldK encKy 2 wr g 0 n (sortR ks).toArray os)) := by
          intro n os
          have hgr := heap_sorted wr g 0 n (sortR ks).toArray os
          refine ⟨?_, HB.out.grown hgr (by have := HSW.out; have := HSZ.out; omega) (fun j hj => by cases hj; have := HSZ.out; omega)⟩
          have hh : HoldsK encKy 2 (sortWorldK encKy 2 wr g 0 n (sortR ks).toArray os) g 0 (sortR ks).toArray :=
            SWK.holds (w0 := wr) (d0 := ss.toArray) ⟨n, os, rfl⟩ hgl hH (by simp [HLE.out])
          have := keys_held (cap := cap) hh (Nat.lt_of_lt_of_le hgl hgr.size) (fun k hk => HK.out k (sortR_mem.1 hk)) (by rw [HLE.out]; exact h1) h2
          rwa [HLE.out] at this
        have HGB : Hid (R + 1 ≤ g) := hbase
        clear hH hb h1 h2 h3 h4 hgl hlen HALL HIS hbase
        go_wp2_with fail
        refine HF.out.mono ?_
        rintro e w5 ⟨rfl, n, os, rfl⟩
        have HE2 := HE.out n os
        generalize sortWorldK encKy 2 wr g 0 n (sortR ks).toArray os = w5 at *
        go_wp2
        go_ret
        refine ⟨_, rfl, HE2.1, by rw [← hX] at HE2; exact HE2.2, fun g' hg => ?_⟩
        have hg3 : g = g' := by simpa [Value.ownBlock] using hg
        have := HGB.out
        have := HSZ.out
        omega
    · intro h p c kl yd yp w2 cnt2 hkey hlk hv hat hrg2 hlt hg2 hs2 hen
      obtain ⟨x, hx', ex, rfl⟩ := keyOf_inv hkey
      obtain ⟨h', p'⟩ := x
      simp only [Value.agg.injEq, Array.mk.injEq, List.cons.injEq, Value.int.injEq, true_and, and_true] at ex
      obtain ⟨rfl, rfl⟩ := ex
      have HIN : Hid ((h, p) ∈ ks) := by
        have h1 := Maps.has_true_of_atKey hat
        rw [HD.out.has (h, p) hx'] at h1
        exact (of_decide_eq_true h1 : (h, p) ∈ ks)
      have HM2 : Hid (Met10 ks (fun z => left z && !z.sameKey (klit (h, p))) (ss ++ [(h, p)])) := HM.out.step hx' hlk HIN.out
      have HX : Hid (KI (h, p)) := hx'
      have hne2 : u3.ownBlock ≠ some R := fun e => by have := (HRO.out.lt R e).1; omega
      have HRO2 : Hid (w2.ownsRow (R + 1) 32 2 u3 ss.length (kcells ss)) := HRO.out.kept hg2 (Or.inr hne2)
      have HB2 : Hid (Below X w w2) := HB.out.grown hg2 (by have := HSW.out; have := HSZ.out; omega) (fun j hj => by cases hj; have := HSZ.out; omega)
      have HS2 : Hid (R + 1 ≤ w2.heap.size) := Nat.le_trans HSW.out hg2.size
      have HRG2 : Hid (w2.ranges Tryz.prog 32 (plainElem Tryz.prog 3) X R ks.length D (fun z => left z && !z.sameKey (klit (h, p))) cnt2) := hrg2
      have HLT : Hid (cnt2 < cnt) := hlt
      have HLB : Hid (u3.ownBlock ≠ some R ∧ u3.ownBlock ≠ some X) := ⟨hne2, fun e => by have := (HRO.out.lt X e).1; have := HSZ.out; omega⟩
      clear hkey hlk hv hat hrg2 hlt hg2 hs2 hx' HM HRO HB HSW HIN hne2
      have HK1 : Hid (Keys ((w2.alloc (.cells #[.int .i64 h, .int .i64 p] 32)).alloc (.cells #[.int .i64 h, .int .i64 p] 32)) (.slice (some ⟨w2.heap.size + 1, 0, none⟩) 1 1) [(h, p)]) := keys_two (k := (h, p)) _ HX.out _
      have HBa : Hid (Below X w ((w2.alloc (.cells #[.int .i64 h, .int .i64 p] 32)).alloc (.cells #[.int .i64 h, .int .i64 p] 32))) := (HB2.out.alloc (by have := HS2.out; have := HSZ.out; omega) _).alloc (by have := HS2.out; have := HSZ.out; simp; omega) _
      have HRa : Hid (((w2.alloc (.cells #[.int .i64 h, .int .i64 p] 32)).alloc (.cells #[.int .i64 h, .int .i64 p] 32)).ranges Tryz.prog 32 (plainElem Tryz.prog 3) X R ks.length D (fun z => left z && !z.sameKey (klit (h, p))) cnt2) := (HRG2.out.alloc _).alloc _
      go_wp2_with (first
        | (at_builtin; refine wpList_append_keys _ rfl _ _ 54 (by rfl) (R + 1) 32 i0 Tryz.underlying54 hi hz0 hz1 hz2 u3 ss.length ss (by rfl) ((HRO2.out.alloc _).alloc _) (.slice (some ⟨w2.heap.size + 1, 0, none⟩) 1 1) [(h, p)] (by rfl) HK1.out (by have := HCS.out; have := HSD.out; simp; omega) (by have := HS2.out; simp; omega) ?_; intro v5 w5 hown5 hg5 hat5; go_frame)
        | go_in)
      have HRG5 : Hid (w5.ranges Tryz.prog 32 (plainElem Tryz.prog 3) X R ks.length D (fun z => left z && !z.sameKey (klit (h, p))) cnt2) := HRa.out.kept hg5 (fun e => HLB.out.2 e.symm) (fun e => HLB.out.1 e.symm)
      have HB5 : Hid (Below X w w5) := HBa.out.grown hg5 (by have := HS2.out; have := HSZ.out; simp; omega) (fun j hj => by have := (HRO2.out.lt j hj).1; have := HSZ.out; omega)
      have hm1 := HRG5.out.left_eq
      have hm2 := HRG.out.left_eq
      have HS5 : Hid (R + 1 ≤ w5.heap.size) := Nat.le_trans (by have := HS2.out; simp; omega) hg5.size
      go_roundw
      case rel =>
        exact ⟨_, cnt2, ss ++ [(h, p)], HRG5.out, by have := HCS.out; have := HLT.out; simp; omega, by simpa using hown5, HM2.out, HB5.out, HS5.out⟩
      case measure => rw [hm1, hm2]; exact HLT.out
end Go.Proofs.YtjhkcdnfnmglhaaGreatDoor

/- The document's Sort of keys. -/
namespace Go.Proofs.YtjhkcdnfnmglhaaGreatDoor
open Go.RowKit
set_option linter.unusedVariables false
set_option maxRecDepth 20000

theorem keys_back0 {w : World} {g m cap j : Nat} {S : List Ky} (h : Keys w (.slice (some ⟨g, 0, none⟩) m cap) S) (hj : j < m) (h1 : m ≤ cap) (h2 : cap ≤ maxLen) : Keys w (.slice (some ⟨g, j * 2, none⟩) (m - j) (cap - j)) (S.drop j) := by
  have := Keys.back (cap' := cap - j) h hj (by omega) (by omega)
  rwa [Nat.zero_add] at this
theorem keys_none {S : List Ky} {j : Nat} (w : World) (a : Addr) (n c : Nat) (h : j = S.length) (hn : n = 0 := by omega) (hc : c ≤ maxLen := by omega) : Keys w (.slice (some a) n c) (S.drop j) := by
  subst h hn
  rw [List.drop_length]
  exact ⟨by simp, by simp, some a, c, rfl, Nat.zero_le _, hc, .inr ⟨a, rfl, .inl rfl⟩⟩
set_option maxRecDepth 20000 in
set_option maxHeartbeats 4000000 in
theorem refSort_any (w : World) (v : Value) (ks : List Ky) (hv : Keys w v ks) (hl : ks.length ≤ 1000) :
    Calls Tryz.prog 49 #[v] w fun e w' => ∃ u, e = .returned u ∧ Keys w' u (sortR ks) ∧ Below w.heap.size w w' ∧ ∀ g, u.ownBlock = some g → w.heap.size ≤ g := by
  have HK : Hid (∀ k ∈ ks, KI k) := hv.1
  obtain ⟨i0, hi, hz0, hz1, hz2⟩ := info_k
  obtain ⟨a, ca, rfl⟩ := hv.shape
  obtain ⟨n, hn⟩ : ∃ n, n = ks.length := ⟨_, rfl⟩
  rw [← hn] at hv hl ⊢
  have HN : Hid (n = ks.length) := hn
  have HV : Hid (Keys w (.slice a n ca) ks) := hv
  clear hn hv
  go_enter Tryz.func49, Tryz.ntmps49
  go_wp2_with fail
  go_loopw [3, 4] (fun v i wr => ∃ k : Nat, i = .int .i64 (k : Nat) ∧ k ≤ n ∧ wr.ownsRow w.heap.size 32 2 v (sortR (ks.take k)).length (kcells (sortR (ks.take k))) ∧ Hid (Below w.heap.size w wr) ∧ Hid (v = .slice none 0 0 ∨ 0 < (sortR (ks.take k)).length)) (fun _ i _ => n - (intOf i).toNat)
  case atStart => exact ⟨0, rfl, Nat.zero_le _, World.ownsRow_nil _ _ _ _, Below.refl _ _, .inl rfl⟩
  case round =>
    obtain ⟨k, rfl, hk, hrow, HB, HNZ⟩ := hrel
    have HRO : Hid (wr.ownsRow w.heap.size 32 2 u3 (sortR (ks.take k)).length (kcells (sortR (ks.take k)))) := hrow
    clear hrow
    have HKT : Hid (∀ k' ∈ sortR (ks.take k), KI k') := fun k' h => HK.out k' (List.mem_of_mem_take (sortR_mem.1 h))
    have HLL : Hid ((sortR (ks.take k)).length ≤ 1000) := by
      have h1 := sortR_len (ks.take k)
      rw [List.length_take] at h1
      unfold Hid
      omega
    have HKO : Hid (Keys wr u3 (sortR (ks.take k))) := Keys.ofOwn HRO.out HKT.out
    by_cases hlt : k < n
    · obtain ⟨b, off, rfl, hb, hc⟩ := HV.out.addr (by omega)
      obtain ⟨h, p, hkk⟩ := key_at (ks := ks) (j := k) (by rw [← HN.out]; exact hlt)
      have c0 : wr.cell? ⟨b, off + k * 2, none⟩ = some (.int .i64 h) := (HB.out.cell (p := ⟨b, off + k * 2, none⟩) hb).trans (hc k _ hkk).1
      have c1 : wr.cell? ⟨b, off + k * 2 + 1, none⟩ = some (.int .i64 p) := (HB.out.cell (p := ⟨b, off + k * 2 + 1, none⟩) hb).trans (hc k _ hkk).2
      have HI : Hid (KI (h, p)) := HV.out.fit hkk
      have HC00 : Hid (w.cell? ⟨b, off + k * 2, none⟩ = some (.int .i64 h) ∧ w.cell? ⟨b, off + k * 2 + 1, none⟩ = some (.int .i64 p)) := hc k _ hkk
      have HTS : Hid (sortR (ks.take (k + 1)) = ins (sortR (ks.take k)) (h, p)) := by unfold Hid; rw [take_snocA hkk, sortR_snoc]
      have HBK : Hid (b < w.heap.size) := hb
      clear hc hb hkk
      generalize hS : sortR (ks.take k) = S at *
      clear hS
      have HH : Hid (Calls Tryz.prog 48 #[u3, .agg #[.int .i64 h, .int .i64 p]] wr fun e w' => e = .returned (.bool (hasK S (h, p))) ∧ Below wr.heap.size wr w') := keyHas_any wr u3 S h p HKO.out
      go_wp2_with fail
      refine HH.out.mono ?_
      rintro e w2 ⟨rfl, hB2⟩
      have HB2 : Hid (Below wr.heap.size wr w2) := hB2
      have HB3 : Hid (Below w.heap.size w w2) := HB.out.trans (hB2.mono HB.out.size)
      have HRO2 : Hid (w2.ownsRow w.heap.size 32 2 u3 S.length (kcells S)) := HRO.out.kept (grown_below hB2) (by cases hv : u3.ownBlock <;> simp)
      clear hB2 HH
      by_cases hin : (h, p) ∈ S
      · have hhk : hasK S (h, p) = true := decide_eq_true hin
        have HE : Hid (sortR (ks.take (k + 1)) = S) := by unfold Hid; rw [HTS.out]; unfold ins; rw [if_pos hin]
        rw [hhk]
        clear hhk hin
        go_wp2_with fail
        go_roundw
        case rel => exact ⟨k + 1, by go_num, by omega, by rw [HE.out]; exact HRO2.out, HB3.out, by rw [HE.out]; exact HNZ.out⟩
        case measure => simp [intOf]; omega
      · have hhk : hasK S (h, p) = false := decide_eq_false hin
        have HE : Hid (sortR (ks.take (k + 1)) = S.take (pos (h, p) S) ++ (h, p) :: S.drop (pos (h, p) S)) := by unfold Hid; rw [HTS.out]; unfold ins; rw [if_neg hin]
        rw [hhk]
        clear hhk hin HTS
        -- BEGIN TAIL
        have HCW : Hid (∀ W, Below w2.heap.size w2 W → W.cell? ⟨b, off + k * 2, none⟩ = some (.int .i64 h) ∧ W.cell? ⟨b, off + k * 2 + 1, none⟩ = some (.int .i64 p)) := fun W hW => by
          have h1 := HB3.out.trans (hW.mono HB3.out.size)
          exact ⟨(h1.cell (p := ⟨b, off + k * 2, none⟩) HBK.out).trans (HC00.out.1), (h1.cell (p := ⟨b, off + k * 2 + 1, none⟩) HBK.out).trans (HC00.out.2)⟩
        obtain ⟨q, hq⟩ : ∃ q, q = pos (h, p) S := ⟨_, rfl⟩
        rw [← hq] at HE
        have HPQ : Hid (pos (h, p) S = q) := hq.symm
        have HPL : Hid (q ≤ S.length) := by rw [hq]; exact pos_le _ _
        clear hq c0 c1
        have HKO2 : Hid (Keys w2 u3 S) := Keys.ofOwn HRO2.out HKT.out
        clear HKO HRO
        obtain ⟨m, hm⟩ : ∃ m, m = S.length := ⟨_, rfl⟩
        rw [← hm] at HPL HRO2 HLL HNZ
        have HML : Hid (m = S.length) := hm
        clear hm
        rcases HRO2.out.2 with ⟨rfl, hm0⟩ | ⟨g, cap, cur, rfl, hbase, hbl, g1, g2, g3, g4⟩
        · have HSn : Hid (S = []) := List.eq_nil_of_length_eq_zero (by have := HML.out; omega)
          have hq0 : q = 0 := by have := HPL.out; omega
          subst hm0 hq0
          go_wp2_with fail
          go_loopw [5] (fun i wi => ∃ j : Nat, i = .int .i64 (j : Nat) ∧ j ≤ 0 ∧ Hid (Below w2.heap.size w2 wi)) (fun i _ => 0 - (intOf i).toNat)
          case atStart => exact ⟨0, rfl, Nat.zero_le _, Below.refl _ _⟩
          case round =>
            obtain ⟨j, rfl, hj, HBI⟩ := hrel
            have hj0 : j = 0 := by omega
            subst hj0
            go_wp2_with fail
            go_quiet (fail)
            have HBI2 : Hid (Below w2.heap.size w2 (wr.drewN nq)) := HBI.out.trans ((below_dr wr nq).mono HBI.out.size)
            clear HBI
            have HBI : Hid (Below w2.heap.size w2 (wr.drewN nq)) := HBI2.out
            clear HBI2
            generalize wr.drewN nq = wz at *
            have HA1 : Hid (Keys wz (.slice none 0 0) (S.take 0)) := (by rw [HSn.out, List.take_nil]; exact Keys.nil _)
            have HA2 : Hid (∀ W, Below wz.heap.size wz W → Keys W (.slice none 0 0) (S.drop 0)) := fun W hW => Keys.kept (by rw [HSn.out, List.drop_nil]; exact Keys.nil _) hW
            have HLA : Hid ((S.take 0).length ≤ 1000 ∧ (S.drop 0).length ≤ 1000 ∧ (S.take 0).length + (S.drop 0).length ≤ 1000) := by
              have h1 := HLL.out
              have h2 := HML.out
              refine ⟨?_, ?_, ?_⟩ <;> (try rw [List.length_take]) <;> (try rw [List.length_drop]) <;> omega
            go_wp2_with (first
              | (at_builtin; refine wpList_append_keys _ rfl _ _ 54 (by rfl) wz.heap.size 32 i0 Tryz.underlying54 hi hz0 hz1 hz2 (.slice none 0 0) 0 [] (by rfl) (World.ownsRow_nil _ _ _ _) (.slice none 0 0) (S.take 0) (by rfl) HA1.out (by have := HLA.out.1; omega) (Nat.le_refl _) ?_; intro v7 w7 hown7 hg7 hat7; have HO7 : Hid (w7.ownsRow wz.heap.size 32 2 v7 (0 + (S.take 0).length) (kcells ([] ++ S.take 0))) := hown7; have HB7 : Hid (Below wz.heap.size wz w7) := ⟨hg7.os, hg7.tape, hg7.output, hg7.size, fun i hi => hg7.block i hi (by simp [Value.ownBlock])⟩; have y0 : w7.cell? ⟨b, off + k * 2, none⟩ = some (.int .i64 h) := (HCW.out w7 (HBI.out.trans (HB7.out.mono HBI.out.size))).1; have y1 : w7.cell? ⟨b, off + k * 2 + 1, none⟩ = some (.int .i64 p) := (HCW.out w7 (HBI.out.trans (HB7.out.mono HBI.out.size))).2; have HK1 : Hid (Keys (w7.alloc (.cells #[.int .i64 h, .int .i64 p] 32)) (.slice (some ⟨w7.heap.size, 0, none⟩) 1 1) [(h, p)]) := Keys.one (k := (h, p)) HI.out; clear hown7 hg7 hat7; go_frame)
              | (at_builtin; refine wpList_append_keys _ rfl _ _ 54 (by rfl) wz.heap.size 32 i0 Tryz.underlying54 hi hz0 hz1 hz2 v7 (0 + (S.take 0).length) ([] ++ S.take 0) (by rfl) (HO7.out.alloc _) (.slice (some ⟨w7.heap.size, 0, none⟩) 1 1) [(h, p)] (by rfl) HK1.out (by have := HLA.out.1; simp only [List.length_singleton]; omega) (by have := HB7.out.size; simp; omega) ?_; intro v8 w8 hown8 hg8 hat8; have HO8 : Hid (w8.ownsRow wz.heap.size 32 2 v8 (0 + (S.take 0).length + [(h, p)].length) (kcells ([] ++ S.take 0 ++ [(h, p)]))) := hown8; have HB8 : Hid (Below wz.heap.size wz w8) := (HB7.out.alloc HB7.out.size _).grown hg8 (by have := HB7.out.size; simp; omega) (fun i hi => (HO7.out.lt i hi).1); clear hown8 hg8 hat8; go_frame)
              | (at_builtin; refine wpList_append_keys _ rfl _ _ 54 (by rfl) wz.heap.size 32 i0 Tryz.underlying54 hi hz0 hz1 hz2 v8 (0 + (S.take 0).length + [(h, p)].length) ([] ++ S.take 0 ++ [(h, p)]) (by rfl) HO8.out (.slice none 0 0) (S.drop 0) (by rfl) (HA2.out _ HB8.out) (by have := HLA.out.2.2; simp only [List.length_singleton]; omega) HB8.out.size ?_; intro v9 w9 hown9 hg9 hat9; have HO9 : Hid (w9.ownsRow wz.heap.size 32 2 v9 (0 + (S.take 0).length + [(h, p)].length + (S.drop 0).length) (kcells ([] ++ S.take 0 ++ [(h, p)] ++ S.drop 0))) := hown9; have HB9 : Hid (Below wz.heap.size wz w9) := HB8.out.grown hg9 HB8.out.size (fun i hi => (HO8.out.lt i hi).1); clear hown9 hg9 hat9; go_frame)
              | go_in)
            have HFIN : Hid (w9.ownsRow w.heap.size 32 2 v9 (sortR (ks.take (k + 1))).length (kcells (sortR (ks.take (k + 1))))) := by
              have e1 : [] ++ S.take 0 ++ [(h, p)] ++ S.drop 0 = sortR (ks.take (k + 1)) := by rw [HE.out]; simp
              have e2 : 0 + (S.take 0).length + [(h, p)].length + (S.drop 0).length = (sortR (ks.take (k + 1))).length := by rw [HE.out]; simp; omega
              have := HO9.out
              rw [e1, e2] at this
              exact own_base this (by have := HB3.out.size; have := HBI.out.size; omega)
            have HNF : Hid (v9 = .slice none 0 0 ∨ 0 < (sortR (ks.take (k + 1))).length) := .inr (by rw [HE.out, List.length_append, List.length_cons]; omega)
            have HBF : Hid (Below w.heap.size w w9) := HB3.out.trans ((HBI.out.trans (HB9.out.mono HBI.out.size)).mono HB3.out.size)
            go_roundw
            case rel => exact ⟨k + 1, by go_num, by omega, HFIN.out, HBF.out, HNF.out⟩
            case measure => simp [intOf]; omega
        · have HSW : Hid (∀ W, Below w2.heap.size w2 W → ∀ j kk, S[j]? = some kk → W.cell? ⟨g, j * 2, none⟩ = some (.int .i64 kk.1) ∧ W.cell? ⟨g, j * 2 + 1, none⟩ = some (.int .i64 kk.2)) := fun W hW j kk hjk => by
            have hk1 := HKO2.out.kept hW
            have hjl : j < m := by have := (List.getElem?_eq_some_iff.1 hjk).1; have := HML.out; omega
            obtain ⟨b', off', e', _, hcell⟩ := hk1.addr (by omega)
            simp only [Option.some.injEq, Addr.mk.injEq, and_true] at e'
            obtain ⟨rfl, rfl⟩ := e'
            have := hcell j kk hjk
            simpa using this
          have HGB : Hid (g < w2.heap.size) := (Array.getElem?_eq_some_iff.1 hbl).1
          have HM0 : Hid (0 < m) := HNZ.out.resolve_left (by simp)
          have HCP : Hid (m ≤ cap ∧ cap ≤ maxLen) := ⟨g1, g2⟩
          clear hbase hbl g3 g4 g1 g2
          go_wp2_with fail
          go_loopw [5] (fun i wi => ∃ j : Nat, i = .int .i64 (j : Nat) ∧ j ≤ q ∧ Hid (Below w2.heap.size w2 wi)) (fun i _ => q - (intOf i).toNat)
          case atStart => exact ⟨0, rfl, Nat.zero_le _, Below.refl _ _⟩
          case round =>
            obtain ⟨j, rfl, hj, HBI⟩ := hrel
            by_cases hjq : j < q
            · obtain ⟨h', p', hkk⟩ := key_at (ks := S) (j := j) (by have := HPL.out; have := HML.out; omega)
              have HLT : Hid (ltK (h', p') (h, p) = true) := by
                have h1 := pos_below (h, p) S j (by have := HPL.out; have := HML.out; omega) (by rw [HPQ.out]; exact hjq)
                rw [List.getElem?_eq_getElem (by have := HPL.out; have := HML.out; omega), Option.some.injEq] at hkk
                rw [hkk] at h1
                exact decide_eq_true h1
              have z0 : wr.cell? ⟨b, off + k * 2, none⟩ = some (.int .i64 h) := (HCW.out wr HBI.out).1
              have z1 : wr.cell? ⟨b, off + k * 2 + 1, none⟩ = some (.int .i64 p) := (HCW.out wr HBI.out).2
              have z2 : wr.cell? ⟨g, j * 2, none⟩ = some (.int .i64 h') := (HSW.out wr HBI.out j _ hkk).1
              have z3 : wr.cell? ⟨g, j * 2 + 1, none⟩ = some (.int .i64 p') := (HSW.out wr HBI.out j _ hkk).2
              have HSK : Hid (∀ w', Below w2.heap.size w2 w' → w'.cell? ⟨b, off + k * 2, none⟩ = some (.int .i64 h) ∧ w'.cell? ⟨b, off + k * 2 + 1, none⟩ = some (.int .i64 p) ∧ w'.cell? ⟨g, j * 2, none⟩ = some (.int .i64 h') ∧ w'.cell? ⟨g, j * 2 + 1, none⟩ = some (.int .i64 p')) := fun w' hw => ⟨(HCW.out w' hw).1, (HCW.out w' hw).2, (HSW.out w' hw j _ hkk).1, (HSW.out w' hw j _ hkk).2⟩
              have HLESS : Hid (∀ W, Calls Tryz.prog 59 #[.agg #[.int .i64 h', .int .i64 p'], .agg #[.int .i64 h, .int .i64 p]] W fun e w' => e = .returned (.bool true) ∧ Below W.heap.size W w') := fun W => by
                have := refLess_any h' p' h p W
                rwa [HLT.out] at this
              have hjm : j < m := by have := HPL.out; omega
              have hm1 : m ≤ 1000 := HLL.out
              clear hkk HLT
              go_wp2_with fail
              have HIW : Hid (wr.heap.size = wr.drew.heap.size) := rfl
              go_region_held3 (fun w' => w'.cell? ⟨b, off + k * 2, none⟩ = some (.int .i64 h) ∧ w'.cell? ⟨b, off + k * 2 + 1, none⟩ = some (.int .i64 p) ∧ w'.cell? ⟨g, j * 2, none⟩ = some (.int .i64 h') ∧ w'.cell? ⟨g, j * 2 + 1, none⟩ = some (.int .i64 p')) (first | exact ⟨z0, z1, z2, z3⟩ | exact HSK.out _ HBX.out) (first
                | (go_at_call 59; refine (HLESS.out _).mono ?_; rintro e9 wx ⟨rfl, hBX⟩; have HBX : Hid (Below w2.heap.size w2 wx) := HBI.out.trans (((below_dr1 wr).trans hBX).mono HBI.out.size); clear hBX))
              all_goals
                go_wp2
                go_roundw
                case rel => exact ⟨j + 1, by go_num, by omega, HBX.out⟩
                case measure => simp [intOf]; omega
            · have hjq' : j = q := by omega
              subst hjq'
              by_cases hjm : j < m
              · obtain ⟨h', p', hkk⟩ := key_at (ks := S) (j := j) (by have := HML.out; omega)
                have HLT : Hid (ltK (h', p') (h, p) = false) := by
                  have h1 := pos_stop (h, p) S (by rw [HPQ.out]; have := HML.out; omega)
                  have h2 : S[pos (h, p) S]'(by rw [HPQ.out]; have := HML.out; omega) = (h', p') := by
                    have h3 := hkk
                    rw [← HPQ.out, List.getElem?_eq_getElem (by rw [HPQ.out]; have := HML.out; omega), Option.some.injEq] at h3
                    exact h3
                  rw [h2] at h1
                  exact decide_eq_false h1
                have z0 : wr.cell? ⟨b, off + k * 2, none⟩ = some (.int .i64 h) := (HCW.out wr HBI.out).1
                have z1 : wr.cell? ⟨b, off + k * 2 + 1, none⟩ = some (.int .i64 p) := (HCW.out wr HBI.out).2
                have z2 : wr.cell? ⟨g, j * 2, none⟩ = some (.int .i64 h') := (HSW.out wr HBI.out j _ hkk).1
                have z3 : wr.cell? ⟨g, j * 2 + 1, none⟩ = some (.int .i64 p') := (HSW.out wr HBI.out j _ hkk).2
                have HSK : Hid (∀ w', Below w2.heap.size w2 w' → w'.cell? ⟨b, off + k * 2, none⟩ = some (.int .i64 h) ∧ w'.cell? ⟨b, off + k * 2 + 1, none⟩ = some (.int .i64 p) ∧ w'.cell? ⟨g, j * 2, none⟩ = some (.int .i64 h') ∧ w'.cell? ⟨g, j * 2 + 1, none⟩ = some (.int .i64 p')) := fun w' hw => ⟨(HCW.out w' hw).1, (HCW.out w' hw).2, (HSW.out w' hw j _ hkk).1, (HSW.out w' hw j _ hkk).2⟩
                have HLESS : Hid (∀ W, Calls Tryz.prog 59 #[.agg #[.int .i64 h', .int .i64 p'], .agg #[.int .i64 h, .int .i64 p]] W fun e w' => e = .returned (.bool false) ∧ Below W.heap.size W w') := fun W => by
                  have := refLess_any h' p' h p W
                  rwa [HLT.out] at this
                have hm1 : m ≤ 1000 := HLL.out
                clear hkk HLT
                go_wp2_with fail
                go_region_held3 (fun w' => w'.cell? ⟨b, off + k * 2, none⟩ = some (.int .i64 h) ∧ w'.cell? ⟨b, off + k * 2 + 1, none⟩ = some (.int .i64 p) ∧ w'.cell? ⟨g, j * 2, none⟩ = some (.int .i64 h') ∧ w'.cell? ⟨g, j * 2 + 1, none⟩ = some (.int .i64 p')) (first | exact ⟨z0, z1, z2, z3⟩ | exact HSK.out _ HBX.out) (first
                  | (go_at_call 59; refine (HLESS.out _).mono ?_; rintro e9 wx ⟨rfl, hBX⟩; have HBX : Hid (Below w2.heap.size w2 wx) := HBI.out.trans (((below_dr1 wr).trans hBX).mono HBI.out.size); clear hBX))
                all_goals
                  clear HBI HSK HLESS z0 z1 z2 z3
                  have HBI : Hid (Below w2.heap.size w2 wx) := HBX.out
                  clear HBX
                  generalize wx = wz at *
                  have hcp1 : m ≤ cap := HCP.out.1
                  have hcp2 : cap ≤ 9223372036854775807 := by have := HCP.out.2; unfold maxLen at this; omega
                  have hcj : (cap = j) = False := eq_false (by omega)
                  have HA1 : Hid (Keys wz (.slice (some ⟨g, 0, none⟩) j cap) (S.take j)) := (HKO2.out.kept HBI.out).front (by omega)
                  have HA2 : Hid (∀ W, Below wz.heap.size wz W → Keys W (.slice (some ⟨g, j * 2, none⟩) (m - j) (cap - j)) (S.drop j)) := fun W hW => Keys.kept (keys_back0 (HKO2.out.kept HBI.out) hjm HCP.out.1 HCP.out.2) hW
                  have HLA : Hid ((S.take j).length ≤ 1000 ∧ (S.drop j).length ≤ 1000 ∧ (S.take j).length + (S.drop j).length ≤ 1000) := by
                    have h1 := HLL.out
                    have h2 := HML.out
                    refine ⟨?_, ?_, ?_⟩ <;> (try rw [List.length_take]) <;> (try rw [List.length_drop]) <;> omega
                  go_wp2_with (first
                    | (at_builtin; refine wpList_append_keys _ rfl _ _ 54 (by rfl) wz.heap.size 32 i0 Tryz.underlying54 hi hz0 hz1 hz2 (.slice none 0 0) 0 [] (by rfl) (World.ownsRow_nil _ _ _ _) (.slice (some ⟨g, 0, none⟩) j cap) (S.take j) (by rfl) HA1.out (by have := HLA.out.1; omega) (Nat.le_refl _) ?_; intro v7 w7 hown7 hg7 hat7; have HO7 : Hid (w7.ownsRow wz.heap.size 32 2 v7 (0 + (S.take j).length) (kcells ([] ++ S.take j))) := hown7; have HB7 : Hid (Below wz.heap.size wz w7) := ⟨hg7.os, hg7.tape, hg7.output, hg7.size, fun i hi => hg7.block i hi (by simp [Value.ownBlock])⟩; have y0 : w7.cell? ⟨b, off + k * 2, none⟩ = some (.int .i64 h) := (HCW.out w7 (HBI.out.trans (HB7.out.mono HBI.out.size))).1; have y1 : w7.cell? ⟨b, off + k * 2 + 1, none⟩ = some (.int .i64 p) := (HCW.out w7 (HBI.out.trans (HB7.out.mono HBI.out.size))).2; have HK1 : Hid (Keys (w7.alloc (.cells #[.int .i64 h, .int .i64 p] 32)) (.slice (some ⟨w7.heap.size, 0, none⟩) 1 1) [(h, p)]) := Keys.one (k := (h, p)) HI.out; clear hown7 hg7 hat7; go_frame)
                    | (at_builtin; refine wpList_append_keys _ rfl _ _ 54 (by rfl) wz.heap.size 32 i0 Tryz.underlying54 hi hz0 hz1 hz2 v7 (0 + (S.take j).length) ([] ++ S.take j) (by rfl) (HO7.out.alloc _) (.slice (some ⟨w7.heap.size, 0, none⟩) 1 1) [(h, p)] (by rfl) HK1.out (by have := HLA.out.1; simp only [List.length_singleton]; omega) (by have := HB7.out.size; simp; omega) ?_; intro v8 w8 hown8 hg8 hat8; have HO8 : Hid (w8.ownsRow wz.heap.size 32 2 v8 (0 + (S.take j).length + [(h, p)].length) (kcells ([] ++ S.take j ++ [(h, p)]))) := hown8; have HB8 : Hid (Below wz.heap.size wz w8) := (HB7.out.alloc HB7.out.size _).grown hg8 (by have := HB7.out.size; simp; omega) (fun i hi => (HO7.out.lt i hi).1); clear hown8 hg8 hat8; go_frame)
                    | (at_builtin; refine wpList_append_keys _ rfl _ _ 54 (by rfl) wz.heap.size 32 i0 Tryz.underlying54 hi hz0 hz1 hz2 v8 (0 + (S.take j).length + [(h, p)].length) ([] ++ S.take j ++ [(h, p)]) (by rfl) HO8.out (.slice (some ⟨g, j * 2, none⟩) (m - j) (cap - j)) (S.drop j) (by rfl) (HA2.out _ HB8.out) (by have := HLA.out.2.2; simp only [List.length_singleton]; omega) HB8.out.size ?_; intro v9 w9 hown9 hg9 hat9; have HO9 : Hid (w9.ownsRow wz.heap.size 32 2 v9 (0 + (S.take j).length + [(h, p)].length + (S.drop j).length) (kcells ([] ++ S.take j ++ [(h, p)] ++ S.drop j))) := hown9; have HB9 : Hid (Below wz.heap.size wz w9) := HB8.out.grown hg9 HB8.out.size (fun i hi => (HO8.out.lt i hi).1); clear hown9 hg9 hat9; go_frame)
                    | go_in)
                  have HFIN : Hid (w9.ownsRow w.heap.size 32 2 v9 (sortR (ks.take (k + 1))).length (kcells (sortR (ks.take (k + 1))))) := by
                    have e1 : [] ++ S.take j ++ [(h, p)] ++ S.drop j = sortR (ks.take (k + 1)) := by rw [HE.out]; simp
                    have e2 : 0 + (S.take j).length + [(h, p)].length + (S.drop j).length = (sortR (ks.take (k + 1))).length := by rw [HE.out]; simp; omega
                    have := HO9.out
                    rw [e1, e2] at this
                    exact own_base this (by have := HB3.out.size; have := HBI.out.size; omega)
                  have HNF : Hid (v9 = .slice none 0 0 ∨ 0 < (sortR (ks.take (k + 1))).length) := .inr (by rw [HE.out, List.length_append, List.length_cons]; omega)
                  have HBF : Hid (Below w.heap.size w w9) := HB3.out.trans ((HBI.out.trans (HB9.out.mono HBI.out.size)).mono HB3.out.size)
                  go_roundw
                  case rel => exact ⟨k + 1, by go_num, by omega, HFIN.out, HBF.out, HNF.out⟩
                  case measure => simp [intOf]; omega

              · have hjm' : j = m := by have := HPL.out; omega
                subst hjm'
                have hm1 : j ≤ 1000 := HLL.out
                go_wp2_with fail
                go_quiet (fail)
                have HBI2 : Hid (Below w2.heap.size w2 (wr.drewN nq)) := HBI.out.trans ((below_dr wr nq).mono HBI.out.size)
                clear HBI
                have HBI : Hid (Below w2.heap.size w2 (wr.drewN nq)) := HBI2.out
                clear HBI2
                generalize wr.drewN nq = wz at *
                have hcp1 : j ≤ cap := HCP.out.1
                have hcp2 : cap ≤ 9223372036854775807 := by have := HCP.out.2; unfold maxLen at this; omega
                have hj0 : 0 < j := HM0.out
                by_cases hcap : cap = j
                · have hcap2 : j = cap := hcap.symm
                  clear hcap
                  subst hcap2
                  have HA1 : Hid (Keys wz (.slice (some ⟨g, 0, none⟩) j j) (S.take j)) := (HKO2.out.kept HBI.out).front (Nat.le_refl _)
                  have HA2 : Hid (∀ W, Below wz.heap.size wz W → Keys W (.slice (some ⟨g, 0, none⟩) 0 0) (S.drop j)) := fun W hW => Keys.kept (keys_none _ _ _ _ HML.out (by omega) (by unfold maxLen; omega)) hW
                  have HLA : Hid ((S.take j).length ≤ 1000 ∧ (S.drop j).length ≤ 1000 ∧ (S.take j).length + (S.drop j).length ≤ 1000) := by
                    have h1 := HLL.out
                    have h2 := HML.out
                    refine ⟨?_, ?_, ?_⟩ <;> (try rw [List.length_take]) <;> (try rw [List.length_drop]) <;> omega
                  go_wp2_with (first
                    | (at_builtin; refine wpList_append_keys _ rfl _ _ 54 (by rfl) wz.heap.size 32 i0 Tryz.underlying54 hi hz0 hz1 hz2 (.slice none 0 0) 0 [] (by rfl) (World.ownsRow_nil _ _ _ _) (.slice (some ⟨g, 0, none⟩) j j) (S.take j) (by rfl) HA1.out (by have := HLA.out.1; omega) (Nat.le_refl _) ?_; intro v7 w7 hown7 hg7 hat7; have HO7 : Hid (w7.ownsRow wz.heap.size 32 2 v7 (0 + (S.take j).length) (kcells ([] ++ S.take j))) := hown7; have HB7 : Hid (Below wz.heap.size wz w7) := ⟨hg7.os, hg7.tape, hg7.output, hg7.size, fun i hi => hg7.block i hi (by simp [Value.ownBlock])⟩; have y0 : w7.cell? ⟨b, off + k * 2, none⟩ = some (.int .i64 h) := (HCW.out w7 (HBI.out.trans (HB7.out.mono HBI.out.size))).1; have y1 : w7.cell? ⟨b, off + k * 2 + 1, none⟩ = some (.int .i64 p) := (HCW.out w7 (HBI.out.trans (HB7.out.mono HBI.out.size))).2; have HK1 : Hid (Keys (w7.alloc (.cells #[.int .i64 h, .int .i64 p] 32)) (.slice (some ⟨w7.heap.size, 0, none⟩) 1 1) [(h, p)]) := Keys.one (k := (h, p)) HI.out; clear hown7 hg7 hat7; go_frame)
                    | (at_builtin; refine wpList_append_keys _ rfl _ _ 54 (by rfl) wz.heap.size 32 i0 Tryz.underlying54 hi hz0 hz1 hz2 v7 (0 + (S.take j).length) ([] ++ S.take j) (by rfl) (HO7.out.alloc _) (.slice (some ⟨w7.heap.size, 0, none⟩) 1 1) [(h, p)] (by rfl) HK1.out (by have := HLA.out.1; simp only [List.length_singleton]; omega) (by have := HB7.out.size; simp; omega) ?_; intro v8 w8 hown8 hg8 hat8; have HO8 : Hid (w8.ownsRow wz.heap.size 32 2 v8 (0 + (S.take j).length + [(h, p)].length) (kcells ([] ++ S.take j ++ [(h, p)]))) := hown8; have HB8 : Hid (Below wz.heap.size wz w8) := (HB7.out.alloc HB7.out.size _).grown hg8 (by have := HB7.out.size; simp; omega) (fun i hi => (HO7.out.lt i hi).1); clear hown8 hg8 hat8; go_frame)
                    | (at_builtin; refine wpList_append_keys _ rfl _ _ 54 (by rfl) wz.heap.size 32 i0 Tryz.underlying54 hi hz0 hz1 hz2 v8 (0 + (S.take j).length + [(h, p)].length) ([] ++ S.take j ++ [(h, p)]) (by rfl) HO8.out (.slice (some ⟨g, 0, none⟩) 0 0) (S.drop j) (by rfl) (HA2.out _ HB8.out) (by have := HLA.out.2.2; simp only [List.length_singleton]; omega) HB8.out.size ?_; intro v9 w9 hown9 hg9 hat9; have HO9 : Hid (w9.ownsRow wz.heap.size 32 2 v9 (0 + (S.take j).length + [(h, p)].length + (S.drop j).length) (kcells ([] ++ S.take j ++ [(h, p)] ++ S.drop j))) := hown9; have HB9 : Hid (Below wz.heap.size wz w9) := HB8.out.grown hg9 HB8.out.size (fun i hi => (HO8.out.lt i hi).1); clear hown9 hg9 hat9; go_frame)
                    | go_in)
                  have HFIN : Hid (w9.ownsRow w.heap.size 32 2 v9 (sortR (ks.take (k + 1))).length (kcells (sortR (ks.take (k + 1))))) := by
                    have e1 : [] ++ S.take j ++ [(h, p)] ++ S.drop j = sortR (ks.take (k + 1)) := by rw [HE.out]; simp
                    have e2 : 0 + (S.take j).length + [(h, p)].length + (S.drop j).length = (sortR (ks.take (k + 1))).length := by rw [HE.out]; simp; omega
                    have := HO9.out
                    rw [e1, e2] at this
                    exact own_base this (by have := HB3.out.size; have := HBI.out.size; omega)
                  have HNF : Hid (v9 = .slice none 0 0 ∨ 0 < (sortR (ks.take (k + 1))).length) := .inr (by rw [HE.out, List.length_append, List.length_cons]; omega)
                  have HBF : Hid (Below w.heap.size w w9) := HB3.out.trans ((HBI.out.trans (HB9.out.mono HBI.out.size)).mono HB3.out.size)
                  go_roundw
                  case rel => exact ⟨k + 1, by go_num, by omega, HFIN.out, HBF.out, HNF.out⟩
                  case measure => simp [intOf]; omega

                · have hcj : (cap = j) = False := eq_false hcap
                  clear hcap
                  have HA1 : Hid (Keys wz (.slice (some ⟨g, 0, none⟩) j cap) (S.take j)) := (HKO2.out.kept HBI.out).front (Nat.le_refl _)
                  have HA2 : Hid (∀ W, Below wz.heap.size wz W → Keys W (.slice (some ⟨g, j * 2, none⟩) 0 (cap - j)) (S.drop j)) := fun W hW => Keys.kept (keys_none _ _ _ _ HML.out (by omega) (by have := HCP.out.2; omega)) hW
                  have HLA : Hid ((S.take j).length ≤ 1000 ∧ (S.drop j).length ≤ 1000 ∧ (S.take j).length + (S.drop j).length ≤ 1000) := by
                    have h1 := HLL.out
                    have h2 := HML.out
                    refine ⟨?_, ?_, ?_⟩ <;> (try rw [List.length_take]) <;> (try rw [List.length_drop]) <;> omega
                  go_wp2_with (first
                    | (at_builtin; refine wpList_append_keys _ rfl _ _ 54 (by rfl) wz.heap.size 32 i0 Tryz.underlying54 hi hz0 hz1 hz2 (.slice none 0 0) 0 [] (by rfl) (World.ownsRow_nil _ _ _ _) (.slice (some ⟨g, 0, none⟩) j cap) (S.take j) (by rfl) HA1.out (by have := HLA.out.1; omega) (Nat.le_refl _) ?_; intro v7 w7 hown7 hg7 hat7; have HO7 : Hid (w7.ownsRow wz.heap.size 32 2 v7 (0 + (S.take j).length) (kcells ([] ++ S.take j))) := hown7; have HB7 : Hid (Below wz.heap.size wz w7) := ⟨hg7.os, hg7.tape, hg7.output, hg7.size, fun i hi => hg7.block i hi (by simp [Value.ownBlock])⟩; have y0 : w7.cell? ⟨b, off + k * 2, none⟩ = some (.int .i64 h) := (HCW.out w7 (HBI.out.trans (HB7.out.mono HBI.out.size))).1; have y1 : w7.cell? ⟨b, off + k * 2 + 1, none⟩ = some (.int .i64 p) := (HCW.out w7 (HBI.out.trans (HB7.out.mono HBI.out.size))).2; have HK1 : Hid (Keys (w7.alloc (.cells #[.int .i64 h, .int .i64 p] 32)) (.slice (some ⟨w7.heap.size, 0, none⟩) 1 1) [(h, p)]) := Keys.one (k := (h, p)) HI.out; clear hown7 hg7 hat7; go_frame)
                    | (at_builtin; refine wpList_append_keys _ rfl _ _ 54 (by rfl) wz.heap.size 32 i0 Tryz.underlying54 hi hz0 hz1 hz2 v7 (0 + (S.take j).length) ([] ++ S.take j) (by rfl) (HO7.out.alloc _) (.slice (some ⟨w7.heap.size, 0, none⟩) 1 1) [(h, p)] (by rfl) HK1.out (by have := HLA.out.1; simp only [List.length_singleton]; omega) (by have := HB7.out.size; simp; omega) ?_; intro v8 w8 hown8 hg8 hat8; have HO8 : Hid (w8.ownsRow wz.heap.size 32 2 v8 (0 + (S.take j).length + [(h, p)].length) (kcells ([] ++ S.take j ++ [(h, p)]))) := hown8; have HB8 : Hid (Below wz.heap.size wz w8) := (HB7.out.alloc HB7.out.size _).grown hg8 (by have := HB7.out.size; simp; omega) (fun i hi => (HO7.out.lt i hi).1); clear hown8 hg8 hat8; go_frame)
                    | (at_builtin; refine wpList_append_keys _ rfl _ _ 54 (by rfl) wz.heap.size 32 i0 Tryz.underlying54 hi hz0 hz1 hz2 v8 (0 + (S.take j).length + [(h, p)].length) ([] ++ S.take j ++ [(h, p)]) (by rfl) HO8.out (.slice (some ⟨g, j * 2, none⟩) 0 (cap - j)) (S.drop j) (by rfl) (HA2.out _ HB8.out) (by have := HLA.out.2.2; simp only [List.length_singleton]; omega) HB8.out.size ?_; intro v9 w9 hown9 hg9 hat9; have HO9 : Hid (w9.ownsRow wz.heap.size 32 2 v9 (0 + (S.take j).length + [(h, p)].length + (S.drop j).length) (kcells ([] ++ S.take j ++ [(h, p)] ++ S.drop j))) := hown9; have HB9 : Hid (Below wz.heap.size wz w9) := HB8.out.grown hg9 HB8.out.size (fun i hi => (HO8.out.lt i hi).1); clear hown9 hg9 hat9; go_frame)
                    | go_in)
                  have HFIN : Hid (w9.ownsRow w.heap.size 32 2 v9 (sortR (ks.take (k + 1))).length (kcells (sortR (ks.take (k + 1))))) := by
                    have e1 : [] ++ S.take j ++ [(h, p)] ++ S.drop j = sortR (ks.take (k + 1)) := by rw [HE.out]; simp
                    have e2 : 0 + (S.take j).length + [(h, p)].length + (S.drop j).length = (sortR (ks.take (k + 1))).length := by rw [HE.out]; simp; omega
                    have := HO9.out
                    rw [e1, e2] at this
                    exact own_base this (by have := HB3.out.size; have := HBI.out.size; omega)
                  have HNF : Hid (v9 = .slice none 0 0 ∨ 0 < (sortR (ks.take (k + 1))).length) := .inr (by rw [HE.out, List.length_append, List.length_cons]; omega)
                  have HBF : Hid (Below w.heap.size w w9) := HB3.out.trans ((HBI.out.trans (HB9.out.mono HBI.out.size)).mono HB3.out.size)
                  go_roundw
                  case rel => exact ⟨k + 1, by go_num, by omega, HFIN.out, HBF.out, HNF.out⟩
                  case measure => simp [intOf]; omega
    · have HKs : Hid (Keys wr u3 (sortR ks)) := by
        have h1 := HKO.out
        rwa [List.take_of_length_le (by rw [← HN.out]; omega)] at h1
      have HF : Hid (∀ g, u3.ownBlock = some g → w.heap.size ≤ g) := fun g hg => (HRO.out.lt g hg).1
      go_wp2
      go_ret
      exact ⟨_, rfl, HKs.out, HB.out, HF.out⟩
end Go.Proofs.YtjhkcdnfnmglhaaGreatDoor

/- The document's Apply: a list with some pages more, and without some. -/
namespace Go.Proofs.YtjhkcdnfnmglhaaGreatDoor
open Go.RowKit
set_option linter.unusedVariables false
set_option maxRecDepth 20000

/-- The keys that stay. -/
def stayK (l : List Md) (gone : List Ky) : List Ky := (l.map Md.k).filter fun k => !hasK gone k
def keysA (l puts : List Md) (gone : List Ky) : List Ky := stayK l gone ++ puts.map Md.k
def entStep (k : Ky) (e : Int × Int × Nat) (m : Md) : Int × Int × Nat := if m.k = k then (m.s, m.g, m.u) else e
/-- A key's entry: the last one put, else what it was. -/
def entA (l puts : List Md) (k : Ky) : Int × Int × Nat := puts.foldl (entStep k) ((findM l k).getD (0, 0, 0))
def mdA (l puts : List Md) (k : Ky) : Md := ⟨k.1, k.2, (entA l puts k).1, (entA l puts k).2.1, (entA l puts k).2.2⟩
/-- The document's answer. -/
def applyM (l puts : List Md) (gone : List Ky) : List Md := (sortR (keysA l puts gone)).map (mdA l puts)
theorem stay_snoc {l : List Md} {gone : List Ky} {k : Nat} {m : Md} (h : l[k]? = some m) : stayK (l.take (k + 1)) gone = stayK (l.take k) gone ++ if hasK gone m.k then [] else [m.k] := by
  unfold stayK
  rw [take_snocA h, List.map_append, List.filter_append]
  cases hh : hasK gone m.k <;> simp [hh]
theorem stay_len (l : List Md) (gone : List Ky) : (stayK l gone).length ≤ l.length := by
  unfold stayK
  exact Nat.le_trans (List.length_filter_le _ _) (by simp)
theorem stay_fit {l : List Md} {gone : List Ky} (h : ∀ m ∈ l, MdI m) : ∀ k ∈ stayK l gone, KI k := by
  intro k hk
  unfold stayK at hk
  have := (List.mem_filter.1 hk).1
  rw [List.mem_map] at this
  obtain ⟨m, hm, rfl⟩ := this
  exact ⟨(h m hm).1, (h m hm).2.1⟩

/-- An entry in a block of its own. -/
def EntAt (w : World) (b : Nat) (e : Int × Int × Nat) : Prop := w.heap[b]? = some (.cells #[.int .i64 e.1, .int .i64 e.2.1, .int .u32 (e.2.2 : Nat)] 37 (0, 0))
theorem EntAt.cells {w : World} {b : Nat} {e : Int × Int × Nat} (h : EntAt w b e) : w.cell? ⟨b, 0, none⟩ = some (.int .i64 e.1) ∧ w.cell? ⟨b, 1, none⟩ = some (.int .i64 e.2.1) ∧ w.cell? ⟨b, 2, none⟩ = some (.int .u32 (e.2.2 : Nat)) := by
  refine ⟨?_, ?_, ?_⟩ <;> rw [cell_of_row _ _ _ _ _ _ h] <;> rfl
theorem EntAt.below {w w' : World} {b : Nat} {e : Int × Int × Nat} (h : EntAt w b e) (hb : Below w.heap.size w w') : EntAt w' b e := (hb.block b (lt_of_heap h)).trans h
theorem EntAt.frozen {w : World} {b : Nat} {e : Int × Int × Nat} (h : EntAt w b e) (i : Nat) : w.frozen? ⟨b, i, none⟩ = false := by
  simp [World.frozen?, show w.heap[b]? = _ from h]
theorem EntAt.set {w : World} {b : Nat} {e : Int × Int × Nat} (h : EntAt w b e) (s g : Int) (u : Nat) : EntAt (((w.setCell ⟨b, 0, none⟩ (.int .i64 s)).setCell ⟨b, 1, none⟩ (.int .i64 g)).setCell ⟨b, 2, none⟩ (.int .u32 (u : Nat))) b (s, g, u) :=
  (heap_set_row (heap_set_row (heap_set_row h 0 _) 1 _) 2 _).trans rfl

set_option maxRecDepth 20000 in
set_option maxHeartbeats 1000000 in
theorem refApply11_new (w : World) (x y z : Value) (l puts : List Md) (gone : List Ky) (hx : Els encM 5 w x l) (hy : Els encM 5 w y puts) (hz : Keys w z gone) (hl : l.length ≤ 100) (hp : puts.length ≤ 100) (hli : ∀ m ∈ l, MdI m) (hpi : ∀ m ∈ puts, MdI m) :
    Calls Tryz.prog 19 #[x, y, z] w fun e w' => ∃ u, e = .returned u ∧ Els encM 5 w' u (applyM l puts gone) ∧ Below w.heap.size w w' ∧ ∀ g, u.ownBlock = some g → w.heap.size ≤ g ∧ g < w'.heap.size := by
  obtain ⟨i0, hi, hz0, hz1, hz2⟩ := info_k
  obtain ⟨i1, hi1, hz3, hz4, hz5⟩ := info_parts Tryz.infoM11
  obtain ⟨a, ca, rfl⟩ := hx.shape
  obtain ⟨b, cb, rfl⟩ := hy.shape
  obtain ⟨L, hn⟩ : ∃ L, L = l.length := ⟨_, rfl⟩
  obtain ⟨M, hm⟩ : ∃ M, M = puts.length := ⟨_, rfl⟩
  rw [← hn] at hx hl ⊢
  rw [← hm] at hy hp ⊢
  have HN : Hid (L = l.length) := hn
  have HM : Hid (M = puts.length) := hm
  have HX : Hid (Els encM 5 w (.slice a L ca) l) := hx
  have HY : Hid (Els encM 5 w (.slice b M cb) puts) := hy
  have HG : Hid (Keys w z gone) := hz
  have HLI : Hid (∀ m ∈ l, MdI m) := hli
  have HPI : Hid (∀ m ∈ puts, MdI m) := hpi
  clear hn hm hx hy hz hli hpi
  go_enter Tryz.func19, Tryz.ntmps19
  go_wp2_with fail
  go_loopw [7, 8] (fun v i wr => ∃ k : Nat, i = .int .i64 (k : Nat) ∧ k ≤ L ∧ Hid (wr.ownsRow w.heap.size 32 2 v (stayK (l.take k) gone).length (kcells (stayK (l.take k) gone))) ∧ Hid (Below w.heap.size w wr)) (fun _ i _ => L - (intOf i).toNat)
  case atStart => exact ⟨0, rfl, Nat.zero_le _, World.ownsRow_nil _ _ _ _, Below.refl _ _⟩
  case round =>
    obtain ⟨k, rfl, hk, HO, HB⟩ := hrel
    by_cases hlt : k < L
    · obtain ⟨q, off, rfl, hq, hc⟩ := (HX.out.kept HB.out).md (by omega)
      obtain ⟨mh, mp, ms, mg, mu, hkk⟩ := md_at (xs := l) (j := k) (by rw [← HN.out]; exact hlt)
      obtain ⟨c0, c1, -, -, -⟩ := hc k _ hkk
      have HST : Hid (stayK (l.take (k + 1)) gone = stayK (l.take k) gone ++ if hasK gone (mh, mp) then [] else [(mh, mp)]) := stay_snoc hkk
      have HKI : Hid (KI (mh, mp)) := by have := HLI.out _ (List.mem_of_getElem? hkk); exact ⟨this.1, this.2.1⟩
      have HLN : Hid ((stayK (l.take k) gone).length ≤ k) := by
        have := stay_len (l.take k) gone
        rw [List.length_take] at this
        unfold Hid; omega
      have HHA : Hid (Calls Tryz.prog 48 #[z, .agg #[.int .i64 mh, .int .i64 mp]] wr fun e w' => e = .returned (.bool (hasK gone (mh, mp))) ∧ Below wr.heap.size wr w') := keyHas_any wr z gone mh mp (HG.out.kept HB.out)
      simp only at c0 c1
      clear hc hkk
      obtain ⟨R, hR⟩ : ∃ R, hasK gone (mh, mp) = R := ⟨_, rfl⟩
      rw [hR] at HST HHA
      clear hR
      go_wp2_with fail
      refine HHA.out.mono ?_
      rintro e w1 ⟨rfl, hb1⟩
      have HO1 : Hid (w1.ownsRow w.heap.size 32 2 u7 (stayK (l.take k) gone).length (kcells (stayK (l.take k) gone))) := own_below11 HO.out hb1
      have HB1 : Hid (Below w.heap.size w w1) := HB.out.trans (hb1.mono HB.out.size)
      have e0 : w1.cell? ⟨q, off + k * 5, none⟩ = some (.int .i64 mh) := (hb1.cell (block_lt_of_cell c0)).trans c0
      have e1 : w1.cell? ⟨q, off + k * 5 + 1, none⟩ = some (.int .i64 mp) := (hb1.cell (block_lt_of_cell c1)).trans c1
      clear hb1 HHA HO HB c0 c1
      generalize stayK (l.take k) gone = S at *
      generalize hS1 : stayK (l.take (k + 1)) gone = S1 at *
      cases R
      · have HS1 : Hid (S1 = S ++ [(mh, mp)]) := HST.out
        have HSZ : Hid (w.heap.size ≤ w1.heap.size) := HB1.out.size
        clear HST
        go_wp2_with (at_builtin; refine wpList_append_keys _ rfl _ _ 54 rfl w.heap.size 32 i0 Tryz.underlying54 hi hz0 hz1 hz2 _ S.length S rfl (own_below11 HO1.out ((Below.refl _ _).alloc (Nat.le_refl _) _)) _ [(mh, mp)] rfl (Keys.one HKI.out) ?d1 ?d2 ?_)
        case d1 => have := HLN.out; simp only [List.length_singleton]; omega
        case d2 => exact Nat.le_trans HSZ.out (by simp)
        intro v2 w2 hown hg _
        have R1 : Hid (w2.ownsRow w.heap.size 32 2 v2 (stayK (l.take (k + 1)) gone).length (kcells (stayK (l.take (k + 1)) gone))) := by
          unfold Hid
          rw [hS1, HS1.out, List.length_append]
          exact hown
        have R2 : Hid (Below w.heap.size w w2) := HB1.out.trans ((Below.refl w.heap.size _).alloc HSZ.out _ |>.trans (below_grownK (own_below11 HO1.out ((Below.refl _ _).alloc (Nat.le_refl _) _)) hg (Nat.le_trans HSZ.out (by simp))))
        clear hown hg HO1 HB1 e0 e1 hS1 HS1
        go_wp2
        go_roundw
        case rel => exact ⟨k + 1, by go_num, by omega, R1.out, R2.out⟩
        case measure => simp [intOf]; omega
      · have HS1 : Hid (S1 = S) := HST.out.trans (List.append_nil _)
        have R1 : Hid (w1.ownsRow w.heap.size 32 2 u7 (stayK (l.take (k + 1)) gone).length (kcells (stayK (l.take (k + 1)) gone))) := by
          unfold Hid
          rw [hS1, HS1.out]
          exact HO1.out
        clear HST HO1 hS1 HS1
        go_wp2
        go_roundw
        case rel => exact ⟨k + 1, by go_num, by omega, R1.out, HB1.out⟩
        case measure => simp [intOf]; omega
    · obtain rfl : L = k := by omega
      have HT : Hid (stayK (l.take L) gone = stayK l gone) := by unfold Hid; rw [List.take_of_length_le (by rw [← HN.out]; omega)]
      have HSL : Hid ((stayK l gone).length ≤ 100) := Nat.le_trans (stay_len l gone) (by rw [← HN.out]; exact hl)
      have HSI : Hid (∀ q ∈ stayK l gone, KI q) := stay_fit HLI.out
      rw [HT.out] at HO
      generalize hS : stayK l gone = S at *
      have HS : Hid (stayK l gone = S) := hS
      clear hS HT
      go_wp2_with fail
      go_loopw [7, 9] (fun v i wr => ∃ j : Nat, i = .int .i64 (j : Nat) ∧ j ≤ M ∧ Hid (wr.ownsRow w.heap.size 32 2 v (S.length + j) (kcells (S ++ (puts.take j).map Md.k))) ∧ Hid (Below w.heap.size w wr)) (fun _ i _ => M - (intOf i).toNat)
      case atStart => exact ⟨0, rfl, Nat.zero_le _, by unfold Hid; simpa using HO.out, HB.out⟩
      case round =>
        obtain ⟨j, rfl, hj, HO2, HB2⟩ := hrel
        by_cases hjt : j < M
        · obtain ⟨q, off, rfl, hq, hc⟩ := (HY.out.kept HB2.out).md (by omega)
          obtain ⟨mh, mp, ms, mg, mu, hkk⟩ := md_at (xs := puts) (j := j) (by rw [← HM.out]; exact hjt)
          obtain ⟨c0, c1, -, -, -⟩ := hc j _ hkk
          have HST : Hid ((puts.take (j + 1)).map Md.k = (puts.take j).map Md.k ++ [(mh, mp)]) := by unfold Hid; rw [take_snocA hkk, List.map_append]; rfl
          have HKI : Hid (KI (mh, mp)) := by have := HPI.out _ (List.mem_of_getElem? hkk); exact ⟨this.1, this.2.1⟩
          have HSZ : Hid (w.heap.size ≤ wr.heap.size) := HB2.out.size
          have HSL2 : Hid (S.length ≤ 100) := HSL.out
          simp only at c0 c1
          clear hc hkk
          go_wp2_with (at_builtin; refine wpList_append_keys _ rfl _ _ 54 rfl w.heap.size 32 i0 Tryz.underlying54 hi hz0 hz1 hz2 _ (S.length + j) (S ++ (puts.take j).map Md.k) rfl (own_below11 HO2.out ((Below.refl _ _).alloc (Nat.le_refl _) _)) _ [(mh, mp)] rfl (Keys.one HKI.out) ?d1 ?d2 ?_)
          case d1 => have := HSL2.out; simp only [List.length_singleton]; omega
          case d2 => exact Nat.le_trans HSZ.out (by simp)
          intro v2 w2 hown hg _
          have R1 : Hid (w2.ownsRow w.heap.size 32 2 v2 (S.length + (j + 1)) (kcells (S ++ (puts.take (j + 1)).map Md.k))) := by
            unfold Hid
            rw [HST.out, ← Nat.add_assoc, List.map_take]
            exact hown
          have R2 : Hid (Below w.heap.size w w2) := HB2.out.trans ((Below.refl w.heap.size _).alloc HSZ.out _ |>.trans (below_grownK (own_below11 HO2.out ((Below.refl _ _).alloc (Nat.le_refl _) _)) hg (Nat.le_trans HSZ.out (by simp))))
          clear hown hg HO2 HB2 c0 c1
          go_wp2
          go_roundw
          case rel => exact ⟨j + 1, by go_num, by omega, R1.out, R2.out⟩
          case measure => simp [intOf]; omega
        · obtain rfl : M = j := by omega
          have HKK : Hid (Keys wr u7 (keysA l puts gone)) := by
            have h1 : S ++ (puts.take M).map Md.k = keysA l puts gone := by unfold keysA; rw [HS.out, List.take_of_length_le (by rw [← HM.out]; omega)]
            have h2 := HO2.out
            rw [h1] at h2
            refine Keys.ofOwn h2 ?_
            intro q hq
            rw [← h1] at hq
            rcases List.mem_append.1 hq with hq | hq
            · exact HSI.out q hq
            · rw [List.mem_map] at hq
              obtain ⟨m, hm, rfl⟩ := hq
              have := HPI.out m (List.mem_of_mem_take hm)
              exact ⟨this.1, this.2.1⟩
          have HKL : Hid ((keysA l puts gone).length ≤ 200) := by
            unfold Hid keysA
            rw [List.length_append, List.length_map, HS.out, ← HM.out]
            have := HSL.out
            omega
          have HSO : Hid (Calls Tryz.prog 49 #[u7] wr fun e w' => ∃ u, e = .returned u ∧ Keys w' u (sortR (keysA l puts gone)) ∧ Below wr.heap.size wr w' ∧ ∀ g, u.ownBlock = some g → wr.heap.size ≤ g) := refSort_any wr u7 _ HKK.out (by have := HKL.out; omega)
          have HTL : Hid ((sortR (keysA l puts gone)).length ≤ 200) := Nat.le_trans (sortR_len _) HKL.out
          have HAP : Hid (applyM l puts gone = (sortR (keysA l puts gone)).map (mdA l puts)) := rfl
          clear HKL HKK HO2
          generalize sortR (keysA l puts gone) = T at *
          go_wp2_with fail
          refine HSO.out.mono ?_
          rintro e w1 ⟨u, rfl, hK, hB, -⟩
          obtain ⟨at', ct, rfl⟩ := hK.shape
          obtain ⟨n, hn⟩ : ∃ n, n = T.length := ⟨_, rfl⟩
          rw [← hn] at hK HTL ⊢
          have hn1 : n ≤ 200 := HTL.out
          have HNT : Hid (n = T.length) := hn
          have HT : Hid (Keys w1 (.slice at' n ct) T) := hK
          have HB1 : Hid (Below w.heap.size w w1) := HB2.out.trans (hB.mono HB2.out.size)
          clear hn hK hB HSO HB2 HSI HSL HS HB HO HG HTL
          go_wp2_with fail
          go_loopw [10, 11] (fun v i wr => ∃ k : Nat, i = .int .i64 (k : Nat) ∧ k ≤ n ∧ Hid (wr.ownsRow w1.heap.size 56 5 v k (ecells encM ((T.take k).map (mdA l puts)))) ∧ Hid (Below w1.heap.size w1 wr)) (fun _ i _ => n - (intOf i).toNat)
          case atStart => exact ⟨0, rfl, Nat.zero_le _, World.ownsRow_nil _ _ _ _, Below.refl _ _⟩
          case round =>
            obtain ⟨k, rfl, hk, HO3, HB3⟩ := hrel
            by_cases hkt : k < n
            · obtain ⟨q, off, rfl, hq, hc⟩ := HT.out.addr (by omega)
              obtain ⟨h, p, hkk⟩ := key_at (ks := T) (j := k) (by rw [← HNT.out]; exact hkt)
              obtain ⟨hc0, hc1⟩ := hc k _ hkk
              simp only at hc0 hc1
              have HTC : Hid (∀ W, Below w1.heap.size w1 W → W.cell? ⟨q, off + k * 2, none⟩ = some (.int .i64 h) ∧ W.cell? ⟨q, off + k * 2 + 1, none⟩ = some (.int .i64 p)) := fun W hW => ⟨(hW.cell (p := ⟨q, off + k * 2, none⟩) hq).trans hc0, (hW.cell (p := ⟨q, off + k * 2 + 1, none⟩) hq).trans hc1⟩
              have HMT : Hid ((T.take (k + 1)).map (mdA l puts) = (T.take k).map (mdA l puts) ++ [mdA l puts (h, p)]) := by unfold Hid; rw [take_snocA hkk, List.map_append]; rfl
              have HBR : Hid (Below w.heap.size w wr) := HB1.out.trans (HB3.out.mono HB1.out.size)
              have HFI : Hid (Calls Tryz.prog 36 #[.slice a L ca, .agg #[.int .i64 h, .int .i64 p]] wr fun e w' => e = .returned (.tuple #[entV (findM l (h, p)), .bool (findM l (h, p)).isSome]) ∧ Below wr.heap.size wr w') := refFind11_any wr _ l h p (by have := HX.out.kept HBR.out; exact this)
              obtain ⟨s0, g0, u0, he0⟩ : ∃ s0 g0 u0, (findM l (h, p)).getD (0, 0, 0) = (s0, g0, u0) := ⟨_, _, _, rfl⟩
              have HEV : Hid (entV (findM l (h, p)) = .agg #[.int .i64 s0, .int .i64 g0, .int .u32 (u0 : Nat)]) := by unfold Hid entV; rw [he0]
              have HEA : Hid (entA l puts (h, p) = puts.foldl (entStep (h, p)) (s0, g0, u0)) := by unfold Hid entA; rw [he0]
              rw [HEV.out] at HFI
              generalize (findM l (h, p)).isSome = ok at HFI
              obtain ⟨t0, t1⟩ := HTC.out wr HB3.out
              clear hc hkk hc0 hc1 he0 HEV
              go_wp2_with fail
              refine HFI.out.mono ?_
              rintro e w2 ⟨rfl, hb2⟩
              have HB4 : Hid (Below w1.heap.size w1 w2) := HB3.out.trans (hb2.mono HB3.out.size)
              have HO4 : Hid (w2.ownsRow w1.heap.size 56 5 u10 k (ecells encM ((T.take k).map (mdA l puts)))) := own_below11 HO3.out hb2
              clear hb2 HFI t0 t1 HBR HB3 HO3
              go_wp2_with fail
              obtain ⟨V, hV⟩ : ∃ V, V = w2.alloc (.cells #[.int .i64 s0, .int .i64 g0, .int .u32 (u0 : Nat)] 37) := ⟨_, rfl⟩
              obtain ⟨Y, hYY⟩ : ∃ Y, Y = w2.heap.size := ⟨_, rfl⟩
              have E0 : Hid (EntAt V Y (s0, g0, u0)) := by rw [hV, hYY]; exact heap_alloc_new w2 _
              have HBV : Hid (Below Y w2 V) := by rw [hV, hYY]; exact (Below.refl _ _).alloc (Nat.le_refl _) _
              have HY1 : Hid (Y = w2.heap.size) := hYY
              rw [← hV]
              try rw [← hYY]
              clear hV hYY
              go_loopw [14] (fun i wv => ∃ j : Nat, i = .int .i64 (j : Nat) ∧ j ≤ M ∧ Hid (EntAt wv Y ((puts.take j).foldl (entStep (h, p)) (s0, g0, u0))) ∧ Hid (Below Y w2 wv)) (fun i _ => M - (intOf i).toNat)
              case atStart => exact ⟨0, rfl, Nat.zero_le _, E0.out, HBV.out⟩
              case round =>
                obtain ⟨j, rfl, hj, HE, HB5⟩ := hrel
                have HYL : Hid (w1.heap.size ≤ Y) := by rw [HY1.out]; exact HB4.out.size
                have HB6 : Hid (Below w1.heap.size w1 wr) := HB4.out.trans (HB5.out.mono HYL.out)
                obtain ⟨t0, t1⟩ := HTC.out wr HB6.out
                have hk1 : (k : Int) < (n : Int) := by omega
                have hk0 : (0 : Int) ≤ (k : Int) := by omega
                by_cases hjt : j < M
                · obtain ⟨r, rof, rfl, hr, hc⟩ := (HY.out.kept (HB1.out.trans (HB6.out.mono HB1.out.size))).md (by omega)
                  obtain ⟨mh, mp, ms, mg, mu, hkk⟩ := md_at (xs := puts) (j := j) (by rw [← HM.out]; exact hjt)
                  obtain ⟨c0, c1, c2, c3, c4⟩ := hc j _ hkk
                  have HFS : Hid ((puts.take (j + 1)).foldl (entStep (h, p)) (s0, g0, u0) = entStep (h, p) ((puts.take j).foldl (entStep (h, p)) (s0, g0, u0)) ⟨mh, mp, ms, mg, mu⟩) := by unfold Hid; rw [take_snocA hkk, List.foldl_append]; rfl
                  simp only at c0 c1 c2 c3 c4
                  have hj1 : (j : Int) < (M : Int) := by omega
                  have hj0 : (0 : Int) ≤ (j : Int) := by omega
                  clear hc hkk HB6
                  generalize (puts.take j).foldl (entStep (h, p)) (s0, g0, u0) = e5 at *
                  obtain ⟨s5, g5, u5⟩ := e5
                  obtain ⟨y0, y1, y2⟩ := HE.out.cells
                  have f0 := HE.out.frozen 0
                  have f1 := HE.out.frozen 1
                  have f2 := HE.out.frozen 2
                  simp only at y0 y1 y2
                  by_cases q1 : mh = h
                  · by_cases q2 : mp = p
                    · have HE2 : Hid (∀ m, EntAt ((((wr.drewN m).setCell ⟨Y, 0, none⟩ (.int .i64 ms)).setCell ⟨Y, 1, none⟩ (.int .i64 mg)).setCell ⟨Y, 2, none⟩ (.int .u32 (mu : Nat))) Y ((puts.take (j + 1)).foldl (entStep (h, p)) (s0, g0, u0))) := fun m => by
                        rw [HFS.out, entStep, if_pos (by rw [← q1, ← q2]; rfl)]
                        exact EntAt.set (w := wr.drewN m) HE.out ms mg mu
                      have HB7 : Hid (∀ m, Below Y w2 ((((wr.drewN m).setCell ⟨Y, 0, none⟩ (.int .i64 ms)).setCell ⟨Y, 1, none⟩ (.int .i64 mg)).setCell ⟨Y, 2, none⟩ (.int .u32 (mu : Nat)))) := fun m => (((HB5.out.trans ((below_dr wr m).mono (by rw [HY1.out]; exact HB5.out.size))).setCell (p := ⟨Y, 0, none⟩) (Nat.le_refl _) _).setCell (p := ⟨Y, 1, none⟩) (Nat.le_refl _) _).setCell (p := ⟨Y, 2, none⟩) (Nat.le_refl _) _
                      clear HE HFS HB5
                      subst q1 q2
                      go_wp2_with fail
                      go_quiet (fail)
                      go_wp2
                      go_roundw
                      case rel => exact ⟨j + 1, by go_num, by omega, HE2.out _, HB7.out _⟩
                      case measure => simp [intOf]; omega
                    · have HE2 : Hid (∀ m, EntAt (wr.drewN m) Y ((puts.take (j + 1)).foldl (entStep (h, p)) (s0, g0, u0))) := fun m => by
                        rw [HFS.out, entStep, if_neg (by intro e; exact q2 (Prod.mk.inj e).2)]
                        exact HE.out
                      have HB7 : Hid (∀ m, Below Y w2 (wr.drewN m)) := fun m => HB5.out.trans ((below_dr wr m).mono (by rw [HY1.out]; exact HB5.out.size))
                      have hne : (mp == p) = false := by simpa using q2
                      clear HE HFS HB5
                      subst q1
                      go_wp2_with fail
                      go_quiet (fail)
                      go_wp2
                      go_roundw
                      case rel => exact ⟨j + 1, by go_num, by omega, HE2.out _, HB7.out _⟩
                      case measure => simp [intOf]; omega
                  · have HE2 : Hid (∀ m, EntAt (wr.drewN m) Y ((puts.take (j + 1)).foldl (entStep (h, p)) (s0, g0, u0))) := fun m => by
                      rw [HFS.out, entStep, if_neg (by intro e; exact q1 (Prod.mk.inj e).1)]
                      exact HE.out
                    have HB7 : Hid (∀ m, Below Y w2 (wr.drewN m)) := fun m => HB5.out.trans ((below_dr wr m).mono (by rw [HY1.out]; exact HB5.out.size))
                    have hne : (mh == h) = false := by simpa using q1
                    clear HE HFS HB5
                    go_wp2_with fail
                    go_quiet (fail)
                    go_wp2
                    go_roundw
                    case rel => exact ⟨j + 1, by go_num, by omega, HE2.out _, HB7.out _⟩
                    case measure => simp [intOf]; omega
                · obtain rfl : M = j := by omega
                  have HE2 : Hid (EntAt wr Y (entA l puts (h, p))) := by
                    unfold Hid
                    rw [HEA.out]
                    have h2 := HE.out
                    rwa [List.take_of_length_le (by rw [← HM.out]; omega)] at h2
                  have HMD : Hid (mdA l puts (h, p) = ⟨h, p, (entA l puts (h, p)).1, (entA l puts (h, p)).2.1, (entA l puts (h, p)).2.2⟩) := rfl
                  rw [HMD.out] at HMT
                  clear HE HMD
                  generalize entA l puts (h, p) = e5 at *
                  obtain ⟨s5, g5, u5⟩ := e5
                  simp only at HMT
                  have HOR : Hid (wr.ownsRow w1.heap.size 56 5 u10 k (ecells encM ((T.take k).map (mdA l puts)))) := own_below11 HO4.out (by have := HB5.out; rwa [HY1.out] at this)
                  have HSX : Hid (∀ W, Below wr.heap.size wr W → W.cell? ⟨q, off + k * 2, none⟩ = some (.int .i64 h) ∧ W.cell? ⟨q, off + k * 2 + 1, none⟩ = some (.int .i64 p) ∧ W.cell? ⟨Y, 0, none⟩ = some (.int .i64 s5) ∧ W.cell? ⟨Y, 1, none⟩ = some (.int .i64 g5) ∧ W.cell? ⟨Y, 2, none⟩ = some (.int .u32 (u5 : Nat))) := fun W hW => by
                    obtain ⟨x0, x1⟩ := HTC.out W (HB6.out.trans (hW.mono HB6.out.size))
                    obtain ⟨x2, x3, x4⟩ := (HE2.out.below hW).cells
                    exact ⟨x0, x1, x2, x3, x4⟩
                  have HQY : Hid (∀ W9 o, (wr.drew.alloc o).grownBy W9 u10.ownBlock → W9.cell? ⟨q, off + k * 2, none⟩ = some (.int .i64 h) ∧ W9.cell? ⟨q, off + k * 2 + 1, none⟩ = some (.int .i64 p) ∧ W9.cell? ⟨Y, 0, none⟩ = some (.int .i64 s5) ∧ W9.cell? ⟨Y, 1, none⟩ = some (.int .i64 g5) ∧ W9.cell? ⟨Y, 2, none⟩ = some (.int .u32 (u5 : Nat))) := fun W9 o hg => by
                    obtain ⟨x0, x1, x2, x3, x4⟩ := HSX.out _ ((Below.refl _ _).drew.alloc (Nat.le_refl _) o)
                    have nq : u10.ownBlock ≠ some q := fun e => by have := (HO4.out.lt q e).1; omega
                    have nY : u10.ownBlock ≠ some Y := fun e => by have := (HO4.out.lt Y e).2; have := HY1.out; omega
                    have bq := hg.block q (block_lt_of_cell x0) (fun e => nq e.symm)
                    have bY := hg.block Y (block_lt_of_cell x2) (fun e => nY e.symm)
                    exact ⟨(World.cell?_of_block (a := ⟨q, off + k * 2, none⟩) bq).trans x0, (World.cell?_of_block (a := ⟨q, off + k * 2 + 1, none⟩) bq).trans x1, (World.cell?_of_block (a := ⟨Y, 0, none⟩) bY).trans x2, (World.cell?_of_block (a := ⟨Y, 1, none⟩) bY).trans x3, (World.cell?_of_block (a := ⟨Y, 2, none⟩) bY).trans x4⟩
                  generalize hQ : (T.take k).map (mdA l puts) = Qs at *
                  have HQ : Hid ((T.take k).map (mdA l puts) = Qs) := hQ
                  have HSZ : Hid (w1.heap.size ≤ wr.heap.size) := HB6.out.size
                  clear hQ t0 t1 HB5
                  go_wp2_with fail
                  go_region_held3 (fun w' => w'.cell? ⟨q, off + k * 2, none⟩ = some (.int .i64 h) ∧ w'.cell? ⟨q, off + k * 2 + 1, none⟩ = some (.int .i64 p) ∧ w'.cell? ⟨Y, 0, none⟩ = some (.int .i64 s5) ∧ w'.cell? ⟨Y, 1, none⟩ = some (.int .i64 g5) ∧ w'.cell? ⟨Y, 2, none⟩ = some (.int .u32 (u5 : Nat))) (first | exact HSX.out _ (Below.refl _ _).drew | exact HSX.out _ ((Below.refl _ _).drew.alloc (Nat.le_refl _) _) | exact HS9) (first
                    | (refine step_append_els encM_ok (by rfl) _ _ 22 (by rfl) w1.heap.size 56 i1 _ 40 Tryz.underlying22 hi1 hz3 (by rfl) hz4 hz5 (by decide) _ k Qs (by rfl) (own_below11 HOR.out ((Below.refl _ _).drew.alloc (Nat.le_refl _) _)) _ [⟨h, p, s5, g5, u5⟩] (by rfl) (els_one11 (by simp)) (by simp only [List.length_cons, List.length_nil]; omega) (Nat.le_trans HSZ.out (by simp)) ?_
                       intro v9 w9 hown9 hg9
                       have HS9 := HQY.out _ _ hg9
                       have HB9 : Hid (Below w1.heap.size w1 w9) := HB6.out.trans (((Below.refl _ _).drew.alloc HSZ.out _).trans (below_grownK (own_below11 HOR.out ((Below.refl _ _).drew.alloc (Nat.le_refl _) _)) hg9 (Nat.le_trans HSZ.out (by simp))))))
                  all_goals
                    have R1 : Hid (w9.ownsRow w1.heap.size 56 5 v9 (k + 1) (ecells encM ((T.take (k + 1)).map (mdA l puts)))) := by
                      unfold Hid
                      rw [HMT.out]
                      exact hown9
                    clear hown9 hg9 HS9
                    go_wp2
                    go_roundw
                    case rel => exact ⟨k + 1, by go_num, by omega, R1.out, HB9.out⟩
                    case measure => simp [intOf]; omega
            · obtain rfl : k = n := by omega
              have HE : Hid (Els encM 5 wr u10 (applyM l puts gone)) := by
                have h2 := HO3.out
                rw [List.take_of_length_le (by rw [← HNT.out]; omega), ← HAP.out] at h2
                exact Els.ofOwn encM_ok h2
              go_wp2
              go_ret
              exact ⟨_, rfl, HE.out, HB1.out.trans (HB3.out.mono HB1.out.size), fun g hg => ⟨Nat.le_trans HB1.out.size (HO3.out.lt g hg).1, (HO3.out.lt g hg).2⟩⟩
theorem refApply11_any (w : World) (x y z : Value) (l puts : List Md) (gone : List Ky) (hx : Els encM 5 w x l) (hy : Els encM 5 w y puts) (hz : Keys w z gone) (hl : l.length ≤ 100) (hp : puts.length ≤ 100) (hli : ∀ m ∈ l, MdI m) (hpi : ∀ m ∈ puts, MdI m) :
    Calls Tryz.prog 19 #[x, y, z] w fun e w' => ∃ u, e = .returned u ∧ Els encM 5 w' u (applyM l puts gone) ∧ Below w.heap.size w w' := by
  refine (refApply11_new w x y z l puts gone hx hy hz hl hp hli hpi).mono ?_
  rintro e w' ⟨u, he, hu, hb, -⟩
  exact ⟨u, he, hu, hb⟩
end Go.Proofs.YtjhkcdnfnmglhaaGreatDoor

/- Maps from keys to entries; contracts of entry.lay and entry.Find. -/
namespace Go.Proofs.YtjhkcdnfnmglhaaGreatDoor
open Go.RowKit Go.Maps
set_option linter.unusedVariables false
set_option maxRecDepth 20000

abbrev Ent : Type := Int × Int × Nat
abbrev evalE (e : Ent) : Value := .agg #[.int .i64 e.1, .int .i64 e.2.1, .int .u32 (e.2.2 : Nat)]
/-- What an entry reads as. -/
def edat (e : Ent) : Dw := .agg [.lit (.int .i64 e.1), .lit (.int .i64 e.2.1), .lit (.int .u32 (e.2.2 : Nat))]
def entR (v : Value) : Option (Dw × List MemPlace) := match v with
  | .agg cs => match cs.toList with
    | [v0, v1, v2] => match v0, v1, v2 with
      | .int .i64 s, .int .i64 g, .int .u32 u => if 0 ≤ u then some (edat (s, g, u.toNat), []) else none
      | _, _, _ => none
    | _ => none
  | _ => none
theorem entR_mk (e : Ent) : entR (evalE e) = some (edat e, []) := by
  obtain ⟨s, g, u⟩ := e
  show (if 0 ≤ ((u : Nat) : Int) then some (edat (s, g, ((u : Nat) : Int).toNat), []) else none) = some (edat (s, g, u), [])
  rw [if_pos (Int.natCast_nonneg u), Int.toNat_natCast]
theorem entR_inv {v : Value} {y : Dw × List MemPlace} (h : entR v = some y) : ∃ e : Ent, v = evalE e ∧ y = (edat e, []) := by
  unfold entR at h
  split at h
  · rename_i cs
    split at h
    · rename_i v0 v1 v2 hcs
      split at h
      · rename_i s g u
        split at h
        · rename_i hu
          cases h
          refine ⟨(s, g, u.toNat), ?_, rfl⟩
          have : cs = #[.int .i64 s, .int .i64 g, .int .u32 u] := by
            apply Array.ext'
            simpa using hcs
          rw [this]
          simp [evalE, Int.toNat_of_nonneg hu]
        · cases h
      · cases h
    · cases h
  · cases h
theorem edat_inj {a b : Ent} (h : edat a = edat b) : a = b := by
  obtain ⟨a1, a2, a3⟩ := a
  obtain ⟨b1, b2, b3⟩ := b
  simp only [edat, DataW.agg.injEq, List.cons.injEq, DataW.lit.injEq, Lit.int.injEq, true_and, and_true] at h
  obtain ⟨h1, h2, h3⟩ := h
  rw [h1, h2, show a3 = b3 by omega]

/-- The entries of ks. -/
structure EntD (D : Dw) (ks : List Ky) (f : Ky → Ent) : Prop where
  fit : ∀ k ∈ ks, KI k
  isMap : IsMap D
  has : ∀ k, KI k → Maps.has D (klit k) = decide (k ∈ ks)
  val : ∀ k, k ∈ ks → ∀ z, D.atKey (klit k) z = edat (f k)
def putF (f : Ky → Ent) (k : Ky) (e : Ent) : Ky → Ent := fun x => if x = k then e else f x
def cutK (ks : List Ky) (k : Ky) : List Ky := ks.filter fun x => !decide (x = k)
theorem EntD.nil (f : Ky → Ent) : EntD (.map []) [] f := ⟨by simp, isMap_empty, fun k _ => rfl, by simp⟩
theorem EntD.put {D : Dw} {ks : List Ky} {f : Ky → Ent} (h : EntD D ks f) {k : Ky} (hk : KI k) (e : Ent) : EntD (D.put (klit k) (edat e)) (ks ++ [k]) (putF f k e) := by
  refine ⟨fun x hx => ?_, h.isMap.put _ _, fun x hx => ?_, fun x hx z => ?_⟩
  · rw [List.mem_append, List.mem_singleton] at hx
    exact hx.elim (h.fit x) (fun e' => e' ▸ hk)
  · by_cases q : x = k
    · subst q
      rw [has_put_same h.isMap (klit_key x)]
      simp
    · rw [has_put_other (fun e' => q (klit_inj hx hk e')), h.has x hx]
      simp [q]
  · by_cases q : x = k
    · subst q
      rw [atKey_put_same h.isMap (klit_key x)]
      simp [putF]
    · have hx' : x ∈ ks := by
        rw [List.mem_append, List.mem_singleton] at hx
        exact hx.resolve_right q
      rw [atKey_put_other (fun e' => q (klit_inj (h.fit x hx') hk e')), h.val x hx']
      simp [putF, q]
theorem EntD.del {D : Dw} {ks : List Ky} {f : Ky → Ent} (h : EntD D ks f) {k : Ky} (hk : KI k) : EntD (D.del (klit k)) (cutK ks k) f := by
  have hm : ∀ x, x ∈ cutK ks k ↔ x ∈ ks ∧ x ≠ k := fun x => by simp [cutK]
  refine ⟨fun x hx => h.fit x ((hm x).1 hx).1, h.isMap.del _, fun x hx => ?_, fun x hx z => ?_⟩
  · by_cases q : x = k
    · subst q
      rw [has_del_same]
      simp [hm]
    · rw [has_del_other (fun e' => q (klit_inj hx hk e')), h.has x hx]
      simp [hm, q]
  · have h2 := (hm x).1 hx
    rw [atKey_del_other (fun e' => h2.2 (klit_inj (h.fit x h2.1) hk e')), h.val x h2.1]
/-- The map's block. -/
def MapE (w : World) (b n : Nat) (ks : List Ky) (f : Ky → Ent) : Prop := ∃ D : Dw, w.ownsMap Tryz.prog 32 entR b n D ∧ EntD D ks f
theorem zeroEn (w : World) : (zeroValue 37).run Tryz.prog w = .ok (evalE (0, 0, 0)) w := by kernel_rfl
theorem MapE.made (w : World) (f : Ky → Ent) : MapE (w.alloc (.map #[] 0)) w.heap.size 0 [] f := ⟨_, World.ownsMap_made _ _ _ _, EntD.nil f⟩
theorem MapE.lt {w : World} {b n : Nat} {ks : List Ky} {f : Ky → Ent} (h : MapE w b n ks f) : b < w.heap.size := by
  obtain ⟨D, h1, _⟩ := h
  exact h1.lt
theorem MapE.grown {w w' : World} {b n : Nat} {ks : List Ky} {f : Ky → Ent} {row : Option Nat} (h : MapE w b n ks f) (hg : w.grownBy w' row) (hne : some b ≠ row) : MapE w' b n ks f := by
  obtain ⟨D, h1, h2⟩ := h
  exact ⟨D, h1.kept hg hne, h2⟩
theorem MapE.kept {w w' : World} {b n : Nat} {ks : List Ky} {f : Ky → Ent} (h : MapE w b n ks f) (hb : Below w.heap.size w w') : MapE w' b n ks f := h.grown (grown_below hb) (by simp)
theorem MapE.put {w : World} {b n : Nat} {ks : List Ky} {f : Ky → Ent} (h : MapE w b n ks f) (hn : n < 100000) {k : Ky} (hk : KI k) (e : Ent) :
    ∃ w', (Instr.mapUpdate 67 (.map (some b)) (.agg #[.int .i64 k.1, .int .i64 k.2]) (evalE e)).run Tryz.prog w = .ok () w' ∧ MapE w' b (n + 1) (ks ++ [k]) (putF f k e) ∧ w.grownBy w' (some b) := by
  obtain ⟨D, h1, h2⟩ := h
  obtain ⟨w', hr, ho, hg⟩ := h1.update lawK Tryz.underlying67 (by unfold maxLen; omega) (keyOf_k hk) (entR_mk e)
  exact ⟨w', hr, ⟨_, ho, h2.put hk e⟩, hg⟩
theorem MapE.look {w : World} {b n : Nat} {ks : List Ky} {f : Ky → Ent} (h : MapE w b n ks f) {k : Ky} (hk : k ∈ ks) :
    (Instr.lookup 67 (.map (some b)) (.agg #[.int .i64 k.1, .int .i64 k.2]) false).run Tryz.prog w = .ok (evalE (f k)) w := by
  obtain ⟨D, h1, h2⟩ := h
  obtain ⟨v, ps, hr, hv⟩ := h1.lookup lawK Tryz.underlying67 (zeroEn w) (entR_mk _) (keyOf_k (h2.fit k hk))
  rw [h2.val k hk] at hv
  obtain ⟨e, rfl, he⟩ := entR_inv hv
  rw [hr, edat_inj (congrArg Prod.fst he)]
/-- 'delete(m, k)'. -/
theorem wpList_delete_ent {w : World} {ops : Array Oper} {rest : List Oper} {o : Oper} {a : Act} {Q : Exit → Act → World → Prop} (hg : o.guard = none) (m x : Operand) (hop : o.op = Op.call { callee := Callee.builtin Builtin.delete, args := #[m, x], argTypes := #[67, 32] })
    {b n : Nat} {ks : List Ky} {f : Ky → Ent} (h : MapE w b n ks f) {k : Ky} (hk : KI k) (hm : a.eval m = .map (some b)) (hx : a.eval x = .agg #[.int .i64 k.1, .int .i64 k.2])
    (hK : ∀ w', Hid (MapE w' b n (cutK ks k) f) → Hid (w.grownBy w' (some b)) → wpList Tryz.prog ops Q rest (a.put o.dst (.tuple #[])) w') : wpList Tryz.prog ops Q (o :: rest) a w := by
  obtain ⟨D, h1, h2⟩ := h
  refine wpList_delete_own w hg m x _ _ hop 37 lawK Tryz.underlying67 entR b n D hm h1 _ _ hx (keyOf_k hk) ?_
  intro w' ho ht
  exact hK w' ⟨_, ho, h2.del hk⟩ ht.grown

/-! ### lay -/
def layF (f : Ky → Ent) (l : List Md) : Ky → Ent := l.foldl (fun f m => putF f m.k (m.s, m.g, m.u)) f
theorem layF_snoc {f : Ky → Ent} {l : List Md} {k : Nat} {m : Md} (h : l[k]? = some m) : layF f (l.take (k + 1)) = putF (layF f (l.take k)) m.k (m.s, m.g, m.u) := by
  unfold layF
  rw [take_snocA h, List.foldl_append]
  rfl
theorem mapk_snoc {l : List Md} {k : Nat} {m : Md} (h : l[k]? = some m) : (l.take (k + 1)).map Md.k = (l.take k).map Md.k ++ [m.k] := by
  rw [take_snocA h, List.map_append]
  rfl
theorem cells2' {w : World} {X : Nat} {a b : Value} {T : TypeId} (h : w.heap[X]? = some (.cells #[a, b] T (0, 0))) : w.cell? ⟨X, 0, none⟩ = some a ∧ w.cell? ⟨X, 1, none⟩ = some b := by
  refine ⟨?_, ?_⟩ <;> simp [World.cell?, h]
/-! ### Find -/
theorem cells3' {w : World} {X : Nat} {a b c : Value} {T : TypeId} (h : w.heap[X]? = some (.cells #[a, b, c] T (0, 0))) : (w.cell? ⟨X, 0, none⟩ = some a ∧ w.cell? ⟨X, 1, none⟩ = some b ∧ w.cell? ⟨X, 2, none⟩ = some c) ∧ ∀ i, w.frozen? ⟨X, i, none⟩ = false := by
  refine ⟨⟨?_, ?_, ?_⟩, fun i => ?_⟩ <;> simp [World.cell?, World.frozen?, h]
end Go.Proofs.YtjhkcdnfnmglhaaGreatDoor

/- Contracts of entry.rising and entry.Apply. -/
namespace Go.Proofs.YtjhkcdnfnmglhaaGreatDoor
open Go.RowKit Go.Maps
set_option linter.unusedVariables false
set_option maxRecDepth 20000

def mdF (f : Ky → Ent) (k : Ky) : Md := ⟨k.1, k.2, (f k).1, (f k).2.1, (f k).2.2⟩
theorem Met10.startE {D : Dw} {ks : List Ky} {f : Ky → Ent} (h : EntD D ks f) : Met10 ks (Maps.has D) [] :=
  ⟨List.nodup_nil, fun k hk => by rw [h.has k hk]; simp, by simp⟩
theorem sortR_alike {ss ks : List Ky} (h : ∀ k, k ∈ ss ↔ k ∈ ks) : sortR ss = sortR ks := rises_same (sortR_rises ss) (sortR_rises ks) fun k => by rw [sortR_mem, sortR_mem, h]
theorem invV11 (v : Value) (y : Dw × List MemPlace) (h : entR v = some y) : ∃ c : Ent, v = evalE c := by
  obtain ⟨e, he, _⟩ := entR_inv h
  exact ⟨e, he⟩

/-! ### Apply -/
def cutAll (ks gs : List Ky) : List Ky := gs.foldl cutK ks
theorem cutAll_snoc {ks gs : List Ky} {k : Nat} {g : Ky} (h : gs[k]? = some g) : cutAll ks (gs.take (k + 1)) = cutK (cutAll ks (gs.take k)) g := by
  unfold cutAll
  rw [take_snocA h, List.foldl_append]
  rfl
theorem cutAll_mem {x : Ky} : ∀ (gs ks : List Ky), x ∈ cutAll ks gs ↔ x ∈ ks ∧ x ∉ gs
  | [], ks => by simp [cutAll]
  | g :: r, ks => by
    show x ∈ cutAll (cutK ks g) r ↔ _
    rw [cutAll_mem r, cutK, List.mem_filter]
    simp [and_assoc]
theorem cutAll_len : ∀ (gs ks : List Ky), (cutAll ks gs).length ≤ ks.length
  | [], ks => Nat.le_refl _
  | g :: r, ks => Nat.le_trans (cutAll_len r (cutK ks g)) (List.length_filter_le _ _)
theorem layF_fold (x : Ky) : ∀ (l : List Md) (f : Ky → Ent), layF f l x = l.foldl (entStep x) (f x)
  | [], f => rfl
  | m :: r, f => by
    show layF (putF f m.k (m.s, m.g, m.u)) r x = r.foldl (entStep x) (entStep x (f x) m)
    rw [layF_fold x r]
    congr 1
    unfold putF entStep
    by_cases e : x = m.k
    · rw [if_pos e, if_pos e.symm]
    · rw [if_neg e, if_neg (fun e' => e e'.symm)]
theorem findM_no {x : Ky} : ∀ {l : List Md}, x ∉ l.map Md.k → findM l x = none
  | [], _ => rfl
  | m :: r, h => by
    rw [List.map_cons, List.mem_cons, not_or] at h
    unfold findM
    rw [if_neg (fun e => h.1 e.symm)]
    exact findM_no h.2
theorem fold_find {x : Ky} : ∀ (l : List Md) (e : Ent), (l.map Md.k).Nodup → l.foldl (entStep x) e = (findM l x).getD e
  | [], e, _ => rfl
  | m :: r, e, h => by
    rw [List.map_cons, List.nodup_cons] at h
    rw [List.foldl_cons, fold_find r _ h.2]
    unfold entStep
    by_cases q : m.k = x
    · rw [if_pos q, findM_no (by rw [← q]; exact h.1)]
      unfold findM
      rw [if_pos q]
      rfl
    · rw [if_neg q]
      conv => rhs; unfold findM
      rw [if_neg q]
theorem apply_is {l puts : List Md} {gone : List Ky} (hn : (l.map Md.k).Nodup) : (sortR (cutAll ([] ++ l.map Md.k) gone ++ puts.map Md.k)).map (mdF (layF (layF (fun _ => (0, 0, 0)) l) puts)) = applyM l puts gone := by
  unfold applyM
  have h1 : sortR (cutAll ([] ++ l.map Md.k) gone ++ puts.map Md.k) = sortR (keysA l puts gone) := sortR_alike fun k => by
    rw [List.nil_append, List.mem_append, cutAll_mem, keysA, List.mem_append, stayK, List.mem_filter]
    simp [hasK]
  rw [h1]
  apply List.map_congr_left
  intro k _
  have h2 : layF (layF (fun _ => (0, 0, 0)) l) puts k = entA l puts k := by
    rw [layF_fold, layF_fold, fold_find l _ hn]
    rfl
  unfold mdF mdA
  rw [h2]

end Go.Proofs.YtjhkcdnfnmglhaaGreatDoor
