/- Some texts of mine, one behind the other (joined by program). -/
import Derived.Test.YtjhkcdnfnmglhaaDoorJ3
import Derived.Maps.RangeWalk
import Derived.Maps.OwnOps
import Derived.Maps.OwnSet
import Derived.Maps.Ext
import Derived.DeepKeys4
import Derived.WideKeyEntry
import Derived.Test.YtjhkcdnfnmglhaaDoorJ4
import Derived.Deep.DeepMust
import Derived.Test.YtjhkcdnfnmglhaaDoorProg
import Derived.Shelf.SlSortCmp.NoneTotal
import Derived.Deep.RegionHeld3
import Derived.Test.YtjhkcdnfnmglhaaDoorJ1
import Derived.Shelf.SortM.Plain
import Derived.Shelf.SortM.SortNone
import Derived.Test.YtjhkcdnfnmglhaaDoorJ2
import Derived.Shelf.SlSortCmp.QuietGrown
import Derived.Sort.OwnSortedInts

/- Maps from keys to how often each is there: what a key reads as; the map that Count makes. -/
namespace Go.Proofs.YtjhkcdnfnmglhaaDoor
open Go.RowKit Go.Maps Go.ChangeShapes Go.WideShapes
set_option linter.unusedVariables false
set_option maxRecDepth 20000

theorem Tryd.laid10 : laidOutB Tryd.prog = true := by kernel_rfl
theorem Tryd.rowK10 : (29 : TypeId) < Tryd.prog.types.size := of_decide_eq_true (by kernel_rfl)
theorem Tryd.wideK10 : (match Tryd.prog.underlying 29 with | some (.array _ _) | some (.struct _) => true | _ => false) = true := by rw [Tryd.underlying29]
theorem lawK : Keyed Tryd.prog 29 := Keyed.of_law (deep_law_laid Tryd.laid10 (m := 2) (by omega) Tryd.rowK10 (by kernel_rfl) Tryd.wideK10)
theorem Tryd.keyT10 : Tryd.prog.keyType 29 = true := by kernel_rfl
theorem Tryd.cells10 : Tryd.prog.cellsOf 29 = 2 := by kernel_rfl

/-- What a key reads as. -/
def klit (k : Ky) : Lit := .string (keyBytes [.int .i64 k.1, .int .i64 k.2])
theorem Tryd.types10 : ∃ n, Tryd.prog.types.size = n + 1 := by
  have := Tryd.rowK10
  cases h : Tryd.prog.types.size with
  | zero => rw [h] at this; exact absurd this (by decide)
  | succ n => exact ⟨n, rfl⟩
theorem keyOf_k {k : Ky} (h : KI k) : keyOf Tryd.prog 29 (.agg #[.int .i64 k.1, .int .i64 k.2]) = some (klit k) := by
  have w1 : (Lit.int .i64 k.1).wf = true := by simpa [Lit.wf, IntKind.min, IntKind.max, IntKind.signed, IntKind.bits, I64] using h.1
  have w2 : (Lit.int .i64 k.2).wf = true := by simpa [Lit.wf, IntKind.min, IntKind.max, IntKind.signed, IntKind.bits, I64] using h.2
  have hf : (Value.agg #[.int .i64 k.1, .int .i64 k.2]).formed Tryd.prog 29 = true := by simp [Value.formed, Tryd.underlying29, Tryd.cells10]
  have c1 : Tryd.prog.cellsOf 3 = 1 := by kernel_rfl
  obtain ⟨n, hn⟩ := Tryd.types10
  unfold keyOf
  simp only [Tryd.underlying29, Tryd.keyT10, hf, Bool.and_self, if_true, hn]
  simp [Program.keyLits, Tryd.underlying29, Tryd.underlying3, Tryd.cells10, c1, Value.cells, w1, w2, klit]
theorem lits1 {n : Nat} {v : Value} {l : List Lit} (h : Tryd.prog.keyLits (n + 1) 3 [v] = some l) : ∃ z, v = .int .i64 z ∧ (Lit.int .i64 z).wf = true ∧ l = [.int .i64 z] := by
  unfold Program.keyLits at h
  rw [Tryd.underlying3] at h
  cases v <;> simp at h
  obtain ⟨⟨rfl, hw⟩, rfl⟩ := h
  exact ⟨_, rfl, hw, rfl⟩
theorem keyOf_inv {v : Value} {l : Lit} (h : keyOf Tryd.prog 29 v = some l) : ∃ k : Ky, KI k ∧ v = .agg #[.int .i64 k.1, .int .i64 k.2] ∧ l = klit k := by
  have c1 : Tryd.prog.cellsOf 3 = 1 := by kernel_rfl
  obtain ⟨n, hn⟩ := Tryd.types10
  unfold keyOf at h
  simp only [Tryd.underlying29, Tryd.keyT10, Bool.true_and, hn] at h
  split at h
  · rename_i hf
    unfold Value.formed at hf
    split at hf
    · rename_i cs
      simp only [Tryd.underlying29, Tryd.cells10, beq_iff_eq] at hf
      obtain ⟨v0, v1, e⟩ := list2 (l := cs.toList) (by simpa using hf)
      have hcs : cs = #[v0, v1] := by
        apply Array.ext'
        simpa using e
      subst hcs
      unfold Program.keyLits at h
      simp [Tryd.underlying29, Tryd.cells10, c1, Value.cells, Option.bind_eq_some_iff] at h
      obtain ⟨l0, h0, _, ⟨l1, h1, rfl⟩, rfl⟩ := h
      obtain ⟨z0, rfl, w0, rfl⟩ := lits1 h0
      obtain ⟨z1, rfl, w1, rfl⟩ := lits1 h1
      refine ⟨(z0, z1), ⟨?_, ?_⟩, rfl, rfl⟩
      · simpa [Lit.wf, IntKind.min, IntKind.max, IntKind.signed, IntKind.bits, I64] using w0
      · simpa [Lit.wf, IntKind.min, IntKind.max, IntKind.signed, IntKind.bits, I64] using w1
    · cases hf
    · simp [Tryd.underlying29] at hf
  · cases h
theorem klit_inj {a b : Ky} (ha : KI a) (hb : KI b) (e : klit a = klit b) : a = b := by
  have h1 := keyOf_k ha
  have h2 := keyOf_k hb
  rw [e] at h1
  have h3 := lawK.inj h1 h2
  simp only [Value.agg.injEq, Array.mk.injEq, List.cons.injEq, Value.int.injEq, true_and, and_true] at h3
  exact Prod.ext h3.1 h3.2
theorem klit_key (k : Ky) : WideAt.IsKeyLit (klit k) := trivial
theorem klit_same {a b : Ky} (ha : KI a) (hb : KI b) : (klit a).sameKey (klit b) = decide (a = b) := by
  by_cases h : a = b
  · subst h
    rw [WideAt.sameKey_self (klit_key a), decide_eq_true rfl]
  · rw [sameKey_ne (fun e => h (klit_inj ha hb e)), decide_eq_false h]

/-! ### Counts -/
abbrev Dw : Type := DataW Unit
/-- How often each of ks is there. -/
structure CountD (D : Dw) (ks : List Ky) : Prop where
  fit : ∀ k ∈ ks, KI k
  times : ∀ k, KI k → D.atKey (klit k) (.lit (.int .i64 0)) = .lit (.int .i64 (ks.count k : Nat))
  has : ∀ k, KI k → Maps.has D (klit k) = decide (k ∈ ks)
  size : Maps.size D = (sortR ks).length
theorem CountD.nil : CountD (.map []) [] := ⟨by simp, fun k _ => rfl, fun k _ => rfl, rfl⟩
theorem CountD.snoc {D : Dw} {ks : List Ky} (h : CountD D ks) (hD : Tidy D) {x : Ky} (hx : KI x) : CountD (D.put (klit x) (.lit (.int .i64 ((ks.count x : Nat) + 1)))) (ks ++ [x]) := by
  refine ⟨fun k hk => ?_, fun k hk => ?_, fun k hk => ?_, ?_⟩
  · rw [List.mem_append, List.mem_singleton] at hk
    exact hk.elim (h.fit k) (fun e => e ▸ hx)
  · by_cases e : k = x
    · subst e
      rw [atKey_put_same hD.isMap (klit_key k)]
      simp
    · rw [atKey_put_other (fun e' => e (klit_inj hk hx e')), h.times k hk, List.count_append, List.count_cons]
      have : (x == k) = false := by simpa using fun e' => e e'.symm
      simp [this]
  · by_cases e : k = x
    · subst e
      rw [has_put_same hD.isMap (klit_key k)]
      simp
    · rw [has_put_other (fun e' => e (klit_inj hk hx e')), h.has k hk]
      simp [e]
  · rw [size_put hD, h.has x hx, h.size, sortR_snoc, ins_len]
    by_cases hm : x ∈ ks
    · simp [hm, sortR_mem.2 hm]
    · have hn : x ∉ sortR ks := fun h => hm (sortR_mem.1 h)
      simp [hm, hn]
/-- The map's block, with how often each of ks is there. -/
def MapAt (w : World) (b : Nat) (ks : List Ky) : Prop := ∃ D : Dw, w.ownsMap Tryd.prog 29 (plainElem Tryd.prog 3) b ks.length D ∧ CountD D ks
theorem MapAt.lt {w : World} {b : Nat} {ks : List Ky} (h : MapAt w b ks) : b < w.heap.size := by
  obtain ⟨D, h1, _⟩ := h
  exact h1.lt
theorem MapAt.grown {w w' : World} {b : Nat} {ks : List Ky} {row : Option Nat} (h : MapAt w b ks) (hg : w.grownBy w' row) (hne : some b ≠ row) : MapAt w' b ks := by
  obtain ⟨D, h1, h2⟩ := h
  exact ⟨D, h1.kept hg hne, h2⟩
theorem grown_below {w w' : World} (h : Below w.heap.size w w') : w.grownBy w' none := ⟨h.os, h.tape, h.output, h.size, fun i hi _ => h.block i hi⟩
theorem MapAt.kept {w w' : World} {b : Nat} {ks : List Ky} (h : MapAt w b ks) (hb : Below w.heap.size w w') : MapAt w' b ks := h.grown (grown_below hb) (by simp)
end Go.Proofs.YtjhkcdnfnmglhaaDoor

/- Contract of entry.take: a mapped page off a reading. -/
namespace Go.Proofs.YtjhkcdnfnmglhaaDoor
open Go.RowKit
set_option linter.unusedVariables false

abbrev mval (m : Md) : Value := .agg #[.int .i64 m.h, .int .i64 m.p, .int .i64 m.s, .int .i64 m.g, .int .u32 (m.u : Nat)]
/-- A page out of octets, as the program has it: a number that no key has makes it the zero key's. -/
def recP (zs : List Nat) : Md := ⟨(ofK (getO (zs.take 4))).1, (ofK (getO (zs.take 4))).2, getO ((zs.drop 4).take 4), getO ((zs.drop 8).take 6), (getO ((zs.drop 14).take 4)).toNat⟩
theorem oct_can {zs : List Nat} {k : Nat} (h : k ≤ zs.length) : (RS.mk zs false).oct k = zs.take k ∧ (RS.mk zs false).off k = ⟨zs.drop k, false⟩ := by
  have hc : (RS.mk zs false).can k = true := RS.can_iff.2 ⟨rfl, h⟩
  exact ⟨if_pos hc, if_pos hc⟩
theorem Tryd.sizeM11 : (Tryd.prog.info? 47).map (·.size) = some 5 := by kernel_rfl
theorem range_five {w : World} {X : Nat} {C : Array Value} {T : TypeId} {r : Nat × Nat} (h : w.heap[X]? = some (.cells C T r)) : w.rangeAt X 0 C.toList := fun j v hj => by
  rw [cell_of_row w X _ _ _ _ h, Nat.zero_add]
  simpa using hj
theorem there_five {w : World} {X n : Nat} {C : Array Value} {T : TypeId} (h : w.heap[X]? = some (.cells C T (0, 0))) (hn : n ≤ C.size) : w.there X 0 n := fun j hj => by
  rw [Nat.zero_add]
  refine ⟨?_, by simp [World.frozen?, h]⟩
  rw [cell_of_row w X _ _ _ _ h, Array.getElem?_eq_getElem (by omega)]
  rfl
theorem load_mval {w : World} {b : Nat} {m : Md} (h : w.rangeAt b 0 (encM m)) : (loadVar 47 ⟨b, 0, none⟩).run Tryd.prog w = .ok (mval m) w :=
  run_loadVar_mid (P := Tryd.prog) _ b 0 47 (encM m) _ h Tryd.underlying47 rfl Tryd.sizeM11
theorem wrapU32 {u : Nat} (h : u < 4294967296) : IntKind.u32.wrap (u : Int) = (u : Int) := by rw [IntKind.wrap_u32]; omega
theorem nat_of_bd {z : Int} (h : 0 ≤ z ∧ z < 4294967296) : ∃ u : Nat, z = (u : Int) ∧ u < 4294967296 := ⟨z.toNat, by omega, by omega⟩

end Go.Proofs.YtjhkcdnfnmglhaaDoor

/- 'm[k]++' on a map whose keys are read by a law: the entry, the look-up beside it, the store. -/
namespace Go.Proofs.YtjhkcdnfnmglhaaDoor
open Go.RowKit Go.Maps Go.ChangeShapes Go.WideShapes Go.MapKept Go.ChangeMaps Go.WideElems
open Go.WideMaps (KeyLaw)
set_option linter.unusedVariables false
set_option maxRecDepth 20000

theorem entry_inc {H : Type} {P : Program} {w : World} {t k e : TypeId} {R : Value → Option (DataW H × List MemPlace)} {b : Nat} {es : Array MapEntry} {clock : Nat} (K : KeyLaw P k) (ht : P.underlying t = some (.map k e)) {z : Value} (hz : ∀ u : World, (zeroValue e).run P u = .ok z u) (hb : w.heap[b]? = some (.map es clock)) (F : Fit P k R es clock)
    {key : Value} {kl : Lit} (hkey : keyOf P k key = some kl) :
    ∃ (v0 : Value) (st : Nat) (es1 : Array MapEntry) (clock1 : Nat), (Instr.lookup t (.map (some b)) key false).run P w = .ok v0 w ∧ (Instr.mapEntry t (.map (some b)) key).run P w = .ok (.tuple #[v0, goInt st]) (setBlock w b (.map es1 clock1)) ∧
      (Instr.mapUpdate t (.map (some b)) key v0).run P w = .ok () (setBlock w b (.map es1 clock1)) ∧
      ∀ (w2 : World) (val : Value), w2.heap[b]? = some (.map es1 clock1) → ∃ es' clock', (Instr.entryStore t (.map (some b)) (goInt st) val).run P w2 = .ok () (setBlock w2 b (.map es' clock')) ∧
        (Instr.mapUpdate t (.map (some b)) key val).run P w = .ok () (setBlock w b (.map es' clock')) := by
  obtain ⟨s1, s2, _⟩ := F.stamped
  rcases K.find w hkey es.toList F.keys with ⟨h1, h2⟩ | ⟨j, e0, h1, h2, h3⟩
  · refine ⟨z, clock, es.push ⟨key, z, clock⟩, clock + 1, ?_, ?_, ?_, fun w2 val hw2 => ⟨es.push ⟨key, val, clock⟩, clock + 1, ?_, ?_⟩⟩
    · simp [Instr.lookup, run_underlying ht, MapKept.run_getObj_map hb, K.check w _ hkey, h1, hz, Result.andThen]
    · simp [Instr.mapEntry, run_underlying ht, MapKept.run_getObj_map hb, K.check w false hkey, h1, hz, MapKept.run_setObj_map _ hb, Result.andThen, setBlock]
    · simp [Instr.mapUpdate, run_underlying ht, MapKept.run_getObj_map hb, K.check w false hkey, h1, MapKept.run_setObj_map _ hb, Result.andThen, setBlock]
    · have hidx : (es.push ⟨key, z, clock⟩).findIdx? (fun e => ((e.born : Nat) : Int) == ((clock : Nat) : Int)) = some es.size := by
        rw [findIdx_arr]
        have := findIdx_born (l := (es.push ⟨key, z, clock⟩).toList) (j := es.size) (e0 := ⟨key, z, clock⟩) (by
          simp only [Array.toList_push, List.map_append, List.map_cons, List.map_nil]
          refine List.nodup_append.2 ⟨s2, by simp, fun a ha c hc e1 => ?_⟩
          simp only [List.mem_singleton] at hc
          obtain ⟨x, hx, rfl⟩ := List.mem_map.1 ha
          have := s1 x hx
          omega) (by simp)
        exact this
      have hmod : (es.push ⟨key, z, clock⟩).modify es.size (fun e => { e with val := val }) = es.push ⟨key, val, clock⟩ := by
        apply Array.ext'
        rw [Array.toList_modify, Array.toList_push, Array.toList_push, ← Array.length_toList, modify_last]
      simp [Instr.entryStore, MapKept.run_getObj_map hw2, asInt, asIntOf, goInt, hidx, hmod, MapKept.run_setObj_map _ hw2, Result.andThen, setBlock]
    · simp [Instr.mapUpdate, run_underlying ht, MapKept.run_getObj_map hb, K.check w false hkey, h1, MapKept.run_setObj_map _ hb, Result.andThen, setBlock]
  · have hj : es[j]? = some e0 := by simpa using h2
    have hsame : es.modify j (fun e => { e with key := key }) = es := by
      apply Array.ext'
      rw [Array.toList_modify, ChangeMaps.modify_eq_set _ _ _ _ h2]
      have : ({ e0 with key := key } : MapEntry) = e0 := by rw [← h3]
      rw [this]
      exact set_self _ _ _ h2
    have hsame2 : es.modify j (fun e' => { e' with key := key, val := e0.val }) = es := by
      apply Array.ext'
      rw [Array.toList_modify, ChangeMaps.modify_eq_set _ _ _ _ h2]
      have : ({ e0 with key := key, val := e0.val } : MapEntry) = e0 := by rw [← h3]
      rw [this]
      exact set_self _ _ _ h2
    refine ⟨e0.val, e0.born, es, clock, ?_, ?_, ?_, fun w2 val hw2 => ⟨es.modify j (fun e' => { e' with key := key, val := val }), clock, ?_, ?_⟩⟩
    · simp [Instr.lookup, run_underlying ht, MapKept.run_getObj_map hb, K.check w _ hkey, h1, Result.andThen]
    · simp [Instr.mapEntry, run_underlying ht, MapKept.run_getObj_map hb, K.check w false hkey, h1, hj, h3, K.stays w hkey, hsame, MapKept.run_setObj_map _ hb, Result.andThen, setBlock]
    · simp [Instr.mapUpdate, run_underlying ht, MapKept.run_getObj_map hb, K.check w false hkey, h1, hj, h3, K.stays w hkey, hsame2, MapKept.run_setObj_map _ hb, Result.andThen, setBlock]
    · have hidx : es.findIdx? (fun e => ((e.born : Nat) : Int) == ((e0.born : Nat) : Int)) = some j := by
        rw [findIdx_arr]
        exact findIdx_born s2 h2
      have hmod : es.modify j (fun e => { e with val := val }) = es.modify j (fun e' => { e' with key := key, val := val }) := by
        apply Array.ext'
        rw [Array.toList_modify, Array.toList_modify, ChangeMaps.modify_eq_set _ _ _ _ h2, ChangeMaps.modify_eq_set _ _ _ _ h2, ← h3]
      simp [Instr.entryStore, MapKept.run_getObj_map hw2, asInt, asIntOf, goInt, hidx, hmod, MapKept.run_setObj_map _ hw2, Result.andThen, setBlock]
    · simp [Instr.mapUpdate, run_underlying ht, MapKept.run_getObj_map hb, K.check w false hkey, h1, hj, h3, K.stays w hkey, MapKept.run_setObj_map _ hb, Result.andThen, setBlock]

theorem keyLaw10 : KeyLaw Tryd.prog 29 := deep_law_laid Tryd.laid10 (m := 2) (by omega) Tryd.rowK10 (by kernel_rfl) Tryd.wideK10
theorem zeroE10 (w : World) : (zeroValue 3).run Tryd.prog w = .ok (.int .i64 0) w := by kernel_rfl
theorem wf64 {c : Int} (h : I64 c) : (Lit.int .i64 c).wf = true := by
  simpa [Lit.wf, IntKind.min, IntKind.max, IntKind.signed, IntKind.bits, I64] using h
theorem count_len (ks : List Ky) (x : Ky) : ks.count x ≤ ks.length := List.count_le_length
end Go.Proofs.YtjhkcdnfnmglhaaDoor

/- Count of package key. -/
namespace Go.Proofs.YtjhkcdnfnmglhaaDoor
open Go.RowKit Go.Maps
set_option linter.unusedVariables false
set_option maxRecDepth 20000

theorem MapAt.made (w : World) : MapAt (w.alloc (.map #[] 0)) w.heap.size [] :=
  ⟨_, World.ownsMap_made _ _ _ _, CountD.nil⟩
theorem MapAt.drew {w : World} {b : Nat} {ks : List Ky} (h : MapAt w b ks) : MapAt w.drew b ks := h.kept ⟨rfl, rfl, rfl, Nat.le_refl _, fun _ _ => rfl⟩
end Go.Proofs.YtjhkcdnfnmglhaaDoor

/- This seat has no such function. -/
namespace Go.Proofs.YtjhkcdnfnmglhaaDoor
end Go.Proofs.YtjhkcdnfnmglhaaDoor

/- order of package key, over cmp.Or and cmp.Compare. -/
namespace Go.Proofs.YtjhkcdnfnmglhaaDoor
open Go.RowKit Go.Shelf Go.Lib Go.Sort
set_option linter.unusedVariables false

/-- How two stand. -/
def cmpI (a b : Int) : Int := if a < b then -1 else if b < a then 1 else 0
theorem cmpI_le (a b : Int) : -1 ≤ cmpI a b ∧ cmpI a b ≤ 1 := by
  unfold cmpI
  split
  · omega
  · split <;> omega
theorem isNaN_any (a : Int) (w : World) :
    Calls Tryd.prog 44 #[.int .i64 a] w fun e w' => e = .returned (.bool false) ∧ w' = w := by
  go_enter Tryd.func44, Tryd.ntmps44
  go_wp2
  go_ret
  exact ⟨by simp, rfl⟩
theorem compare_any (a b : Int) (w : World) :
    Calls Tryd.prog 36 #[.int .i64 a, .int .i64 b] w fun e w' => e = .returned (.int .i64 (cmpI a b)) ∧ w' = w := by
  have HNA : Hid (∀ x W, Calls Tryd.prog 44 #[.int .i64 x] W fun e w' => e = .returned (.bool false) ∧ w' = W) := isNaN_any
  by_cases h1 : a < b
  · have HC : Hid (cmpI a b = -1) := by unfold Hid cmpI; rw [if_pos h1]
    go_enter Tryd.func36, Tryd.ntmps36
    go_wp2_with (go_at_call 44; refine (HNA.out _ _).mono ?_; rintro e1 w1 ⟨rfl, rfl⟩)
    go_ret
    exact ⟨ret_int HC.out.symm, rfl⟩
  · have h1' : (a < b) = False := eq_false h1
    by_cases h2 : b < a
    · have HC : Hid (cmpI a b = 1) := by unfold Hid cmpI; rw [if_neg h1, if_pos h2]
      go_enter Tryd.func36, Tryd.ntmps36
      go_wp2_with (go_at_call 44; refine (HNA.out _ _).mono ?_; rintro e1 w1 ⟨rfl, rfl⟩)
      go_ret
      exact ⟨ret_int HC.out.symm, rfl⟩
    · have h2' : (b < a) = False := eq_false h2
      have HC : Hid (cmpI a b = 0) := by unfold Hid cmpI; rw [if_neg h1, if_neg h2]
      go_enter Tryd.func36, Tryd.ntmps36
      go_wp2_with (go_at_call 44; refine (HNA.out _ _).mono ?_; rintro e1 w1 ⟨rfl, rfl⟩)
      go_ret
      exact ⟨ret_int HC.out.symm, rfl⟩
def orI (x y : Int) : Int := if x = 0 then y else x
/-- How two keys stand. -/
def cmpK (a b : Ky) : Int := orI (cmpI a.1 b.1) (cmpI a.2 b.2)
theorem ltOf_cmpK (a b : Ky) : ltOf cmpK a b = decide (KLt a b) := by
  obtain ⟨a1, a2⟩ := a
  obtain ⟨b1, b2⟩ := b
  unfold ltOf cmpK orI cmpI KLt
  simp only
  by_cases h1 : a1 < b1
  · simp [h1]
  · by_cases h2 : b1 < a1
    · have : ¬ a1 = b1 := by omega
      simp [h1, h2, this]
    · have e : a1 = b1 := by omega
      subst e
      by_cases h3 : a2 < b2
      · simp [h3]
      · by_cases h4 : b2 < a2 <;> simp [h3, h4]
theorem new_two (V : World) (u v : Value) (t : TypeId) (n : Nat) (h : n = V.heap.size) : (V.alloc (.cells #[u, v] t)).drew.cell? ⟨n, 0, none⟩ = some u ∧ (V.alloc (.cells #[u, v] t)).drew.cell? ⟨n, 1, none⟩ = some v := by
  subst h
  exact ⟨by simp, by simp⟩
theorem three_grown (w : World) (a b c : Obj) : ((((w.alloc a).alloc b).alloc c).drew) = grow (w.drewN 1) #[a, b, c] := by
  rw [alloc_eq_grow, alloc_eq_grow, alloc_eq_grow, grow_grow, grow_grow]
  rfl
theorem keep_alloc {W : World} {X i : Nat} {v : Value} (hX : X < W.heap.size) (h : W.cell? ⟨X, i, none⟩ = some v) (o : Obj) : (W.alloc o).drew.cell? ⟨X, i, none⟩ = some v :=
  ((((Below.refl W.heap.size W).alloc (Nat.le_refl _) o)).cell (p := ⟨X, i, none⟩) hX).trans h
/-! ### slices.SortFunc over keys -/
def encKy (k : Ky) : List Value := [.int .i64 k.1, .int .i64 k.2]
theorem swoK : SWO (ltOf cmpK) where
  irrefl x := by rw [ltOf_cmpK]; exact decide_eq_false (KLt.irr x)
  trans x y z h1 h2 := by
    rw [ltOf_cmpK] at *
    exact decide_eq_true ((of_decide_eq_true h1).trans (of_decide_eq_true h2))
  ntrans x y z h1 h2 := by
    rw [ltOf_cmpK] at *
    simp only [decide_eq_false_iff_not] at *
    unfold KLt at *
    omega
theorem totK (x y : Ky) (h1 : ltOf cmpK x y = false) (h2 : ltOf cmpK y x = false) : x = y := by
  rw [ltOf_cmpK] at h1 h2
  simp only [decide_eq_false_iff_not] at h1 h2
  rcases Decidable.em (x = y) with e | e
  · exact e
  · exact absurd (klt_or e h1) h2
end Go.Proofs.YtjhkcdnfnmglhaaDoor

/- Sort of package key: the keys of the map that Count makes, sorted. -/
namespace Go.Proofs.YtjhkcdnfnmglhaaDoor
open Go.RowKit Go.Maps Go.Sort Go.Shelf Go.Lib
set_option linter.unusedVariables false
set_option maxRecDepth 20000

/-! ### What the sort leaves -/
theorem heap_sorted (w : World) (blk off n : Nat) (d : Array Ky) (os : Array Obj) : w.grownBy (sortWorldK encKy 2 w blk off n d os) (some blk) := by
  refine ⟨rfl, rfl, rfl, ?_, fun i hi hne => ?_⟩
  · simp [sortWorldK, putRowK, putRow, mapBlock, Sort.grow]
  · have hne' : blk ≠ i := fun e => hne (by rw [e])
    simp only [sortWorldK, Sort.grow, putRowK, putRow, mapBlock]
    rw [Array.getElem?_append_left (by simpa using hi), Array.getElem?_modify, if_neg hne']
    rfl
theorem flat_at (ks : List Ky) (j : Nat) (hj : j < ks.length * 2) : (flatK encKy 2 ks.toArray)[j]! = (kcells ks)[j]?.getD undef := by
  rw [get_flatK _ _ _ _ (by simpa using hj)]
  have h1 : j / 2 < ks.length := by omega
  have hk : ks[j / 2]? = some ks[j / 2] := List.getElem?_eq_getElem h1
  have hg : (ks.toArray)[j / 2]! = ks[j / 2] := by simp [h1]
  have hc := kcells_at ks (j / 2) _ hk
  rw [hg]
  rcases Nat.mod_two_eq_zero_or_one j with h | h
  · have e : j = j / 2 * 2 := by omega
    rw [h]
    have := hc.1
    rw [← e] at this
    rw [this]
    rfl
  · have e : j = j / 2 * 2 + 1 := by omega
    rw [h]
    have := hc.2
    rw [← e] at this
    rw [this]
    rfl
theorem holds_own {w : World} {g n cap : Nat} {cur : Array Value} {e : TypeId} {ks : List Ky} (hb : w.heap[g]? = some (.cells cur e (0, 0))) (hl : ks.length = n) (h4 : cur.toList.take (n * 2) = kcells ks) : HoldsK encKy 2 w g 0 ks.toArray := by
  intro j hj
  have hj' : j < ks.length * 2 := by simpa using hj
  have hlen := kcells_length ks
  have hat : cur[j]? = some ((kcells ks)[j]?.getD undef) := by
    have h5 : (kcells ks)[j]? = some (kcells ks)[j] := List.getElem?_eq_getElem (by omega)
    rw [h5, Option.getD_some, ← h5, ← h4, List.getElem?_take_of_lt (by omega), Array.getElem?_toList]
  refine ⟨?_, ?_⟩
  · show w.cell? ⟨g, 0 + j, none⟩ = some (id (flatK encKy 2 ks.toArray)[j]!)
    rw [flat_at ks j hj', Nat.zero_add]
    simp [World.cell?, hb, hat]
  · simp [World.frozen?, hb]
theorem keys_held {w : World} {g cap : Nat} {ks : List Ky} (h : HoldsK encKy 2 w g 0 ks.toArray) (hg : g < w.heap.size) (hk : ∀ k ∈ ks, KI k) (h1 : ks.length ≤ cap) (h2 : cap ≤ maxLen) : Keys w (.slice (some ⟨g, 0, none⟩) ks.length cap) ks := by
  refine ⟨hk, Nat.le_trans h1 h2, _, cap, rfl, h1, h2, .inr ⟨_, rfl, .inr ⟨g, 0, rfl, hg, fun j k hj => ?_⟩⟩⟩
  have hjl : j < ks.length := (List.getElem?_eq_some_iff.1 hj).1
  have hget : (ks.toArray)[j]! = k := by
    rw [List.getElem?_eq_getElem hjl] at hj
    simpa [hjl] using hj
  have a := h.cell (i := j) (c := 0) (by simpa using hjl) (by decide)
  have b := h.cell (i := j) (c := 1) (by simpa using hjl) (by decide)
  rw [hget] at a b
  exact ⟨a.1, b.1⟩

/-! ### The order of a sort, and the document's -/
theorem merge_is {ss ks : List Ky} (hn : ss.Nodup) (hm : ∀ k, k ∈ ss ↔ k ∈ ks) : (ss.mergeSort fun x y => !(ltOf cmpK) y x) = sortR ks := by
  have hp := List.mergeSort_perm ss (fun x y => !(ltOf cmpK) y x)
  have ht : ∀ a b c : Ky, (!(ltOf cmpK) b a) = true → (!(ltOf cmpK) c b) = true → (!(ltOf cmpK) c a) = true := by
    intro a b c h1 h2
    rw [ltOf_cmpK] at *
    simp only [Bool.not_eq_true', decide_eq_false_iff_not] at *
    unfold KLt at *
    omega
  have hto : ∀ a b : Ky, ((!(ltOf cmpK) b a) || (!(ltOf cmpK) a b)) = true := by
    intro a b
    rw [ltOf_cmpK, ltOf_cmpK, Bool.or_eq_true]
    simp only [Bool.not_eq_true', decide_eq_false_iff_not]
    unfold KLt
    omega
  have hs := List.pairwise_mergeSort (le := fun x y => !(ltOf cmpK) y x) ht hto ss
  refine rises_same ?_ (sortR_rises ks) fun k => ?_
  · have hnd : (ss.mergeSort fun x y => !(ltOf cmpK) y x).Nodup := hp.nodup_iff.2 hn
    refine (hs.and hnd).imp fun {a b} h => ?_
    obtain ⟨h1, h2⟩ := h
    rw [ltOf_cmpK] at h1
    simp only [Bool.not_eq_true', decide_eq_false_iff_not] at h1
    exact klt_or (fun e => h2 e.symm) h1
  · rw [hp.mem_iff, hm, sortR_mem]

/-! ### The keys met so far -/
structure Met10 (ks : List Ky) (left : Lit → Bool) (ss : List Ky) : Prop where
  nodup : ss.Nodup
  mem : ∀ k, KI k → (k ∈ ss ↔ k ∈ ks ∧ left (klit k) = false)
  fit : ∀ k ∈ ss, KI k
theorem Met10.start {D : Dw} {ks : List Ky} (h : CountD D ks) : Met10 ks (Maps.has D) [] :=
  ⟨List.nodup_nil, fun k hk => by rw [h.has k hk]; simp, by simp⟩
theorem Met10.step {ks : List Ky} {left : Lit → Bool} {ss : List Ky} (h : Met10 ks left ss) {x : Ky} (hx : KI x) (hl : left (klit x) = true) (hin : x ∈ ks) : Met10 ks (fun z => left z && !z.sameKey (klit x)) (ss ++ [x]) := by
  have hno : x ∉ ss := fun h' => by have := ((h.mem x hx).1 h').2; rw [hl] at this; cases this
  refine ⟨?_, fun k hk => ?_, fun k hk => ?_⟩
  · rw [List.nodup_append]
    exact ⟨h.nodup, by simp, fun a ha b hb => by rw [List.mem_singleton.1 hb]; exact fun e => hno (e ▸ ha)⟩
  · rw [List.mem_append, List.mem_singleton, h.mem k hk, klit_same hk hx]
    by_cases e : k = x
    · subst e; simp [hin]
    · simp [e]
  · rw [List.mem_append, List.mem_singleton] at hk
    exact hk.elim (h.fit k) (fun e => e ▸ hx)
theorem Met10.all {ks : List Ky} {left : Lit → Bool} {ss : List Ky} (h : Met10 ks left ss) (hk : ∀ k ∈ ks, KI k) (hl : ∀ l, left l = false) : ∀ k, k ∈ ss ↔ k ∈ ks :=
  fun k => ⟨fun h' => ((h.mem k (h.fit k h')).1 h').1, fun h' => (h.mem k (hk k h')).2 ⟨h', hl _⟩⟩

theorem own_base {w : World} {b b' n z : Nat} {e : TypeId} {v : Value} {xs : List Value} (h : w.ownsRow b e z v n xs) (hb : b' ≤ b) : w.ownsRow b' e z v n xs := by
  refine ⟨h.1, ?_⟩
  rcases h.2 with h2 | ⟨g, cap, cur, h2, h3, h4⟩
  · exact .inl h2
  · exact .inr ⟨g, cap, cur, h2, Nat.le_trans hb h3, h4⟩
theorem Tryd.infoK10 : (Tryd.prog.info? 29).map (fun i => (i.zero, i.size, i.bytes)) = some (some (.agg #[.int .i64 0, .int .i64 0]), 2, 16) := by kernel_rfl
theorem info_k : ∃ i, Tryd.prog.info? 29 = some i ∧ i.zero = some (.agg #[.int .i64 0, .int .i64 0]) ∧ i.size = 2 ∧ i.bytes = 16 := by
  have h := Tryd.infoK10
  cases hi : Tryd.prog.info? 29 with
  | none => rw [hi] at h; simp at h
  | some i =>
    rw [hi] at h
    simp only [Option.map_some, Option.some.injEq, Prod.mk.injEq] at h
    exact ⟨i, rfl, h.1, h.2.1, h.2.2⟩
theorem keys_two {w : World} {k : Ky} (o : Obj) (hz : KI k) (e : TypeId) : Keys ((w.alloc o).alloc (.cells #[.int .i64 k.1, .int .i64 k.2] e)) (.slice (some ⟨w.heap.size + 1, 0, none⟩) 1 1) [k] := by
  have := Keys.one (w := w.alloc o) (e := e) hz
  have e1 : (w.alloc o).heap.size = w.heap.size + 1 := by simp
  rwa [e1] at this
theorem invK10 (key : Value) (kl : Lit) (h : keyOf Tryd.prog 29 key = some kl) : ∃ x : Ky, key = .agg #[.int .i64 x.1, .int .i64 x.2] := by
  obtain ⟨x, _, e, _⟩ := keyOf_inv h
  exact ⟨x, e⟩
theorem invV10 (v : Value) (y : Dw × List MemPlace) (h : plainElem Tryd.prog 3 v = some y) : ∃ c, v = .int .i64 c := by
  obtain ⟨c, rfl, _⟩ := plainElem_int_inv Tryd.underlying3 h
  exact ⟨c, rfl⟩
end Go.Proofs.YtjhkcdnfnmglhaaDoor

/- The document's Sort of keys. -/
namespace Go.Proofs.YtjhkcdnfnmglhaaDoor
open Go.RowKit
set_option linter.unusedVariables false
set_option maxRecDepth 20000

theorem keys_back0 {w : World} {g m cap j : Nat} {S : List Ky} (h : Keys w (.slice (some ⟨g, 0, none⟩) m cap) S) (hj : j < m) (h1 : m ≤ cap) (h2 : cap ≤ maxLen) : Keys w (.slice (some ⟨g, j * 2, none⟩) (m - j) (cap - j)) (S.drop j) := by
  have := Keys.back (cap' := cap - j) h hj (by omega) (by omega)
  rwa [Nat.zero_add] at this
theorem keys_none {S : List Ky} {j : Nat} (w : World) (a : Addr) (n c : Nat) (h : j = S.length) (hn : n = 0 := by omega) (hc : c ≤ maxLen := by omega) : Keys w (.slice (some a) n c) (S.drop j) := by
  subst h hn
  rw [List.drop_length]
  exact ⟨by simp, by simp, some a, c, rfl, Nat.zero_le _, hc, .inr ⟨a, rfl, .inl rfl⟩⟩
end Go.Proofs.YtjhkcdnfnmglhaaDoor

/- The document's Apply: a list with some pages more, and without some. -/
namespace Go.Proofs.YtjhkcdnfnmglhaaDoor
open Go.RowKit
set_option linter.unusedVariables false
set_option maxRecDepth 20000

/-- The keys that stay. -/
def stayK (l : List Md) (gone : List Ky) : List Ky := (l.map Md.k).filter fun k => !hasK gone k
def keysA (l puts : List Md) (gone : List Ky) : List Ky := stayK l gone ++ puts.map Md.k
def entStep (k : Ky) (e : Int × Int × Nat) (m : Md) : Int × Int × Nat := if m.k = k then (m.s, m.g, m.u) else e
/-- A key's entry: the last one put, else what it was. -/
def entA (l puts : List Md) (k : Ky) : Int × Int × Nat := puts.foldl (entStep k) ((findM l k).getD (0, 0, 0))
def mdA (l puts : List Md) (k : Ky) : Md := ⟨k.1, k.2, (entA l puts k).1, (entA l puts k).2.1, (entA l puts k).2.2⟩
/-- The document's answer. -/
def applyM (l puts : List Md) (gone : List Ky) : List Md := (sortR (keysA l puts gone)).map (mdA l puts)
theorem stay_snoc {l : List Md} {gone : List Ky} {k : Nat} {m : Md} (h : l[k]? = some m) : stayK (l.take (k + 1)) gone = stayK (l.take k) gone ++ if hasK gone m.k then [] else [m.k] := by
  unfold stayK
  rw [take_snocA h, List.map_append, List.filter_append]
  cases hh : hasK gone m.k <;> simp [hh]
theorem stay_len (l : List Md) (gone : List Ky) : (stayK l gone).length ≤ l.length := by
  unfold stayK
  exact Nat.le_trans (List.length_filter_le _ _) (by simp)
theorem stay_fit {l : List Md} {gone : List Ky} (h : ∀ m ∈ l, MdI m) : ∀ k ∈ stayK l gone, KI k := by
  intro k hk
  unfold stayK at hk
  have := (List.mem_filter.1 hk).1
  rw [List.mem_map] at this
  obtain ⟨m, hm, rfl⟩ := this
  exact ⟨(h m hm).1, (h m hm).2.1⟩

/-- An entry in a block of its own. -/
def EntAt (w : World) (b : Nat) (e : Int × Int × Nat) : Prop := w.heap[b]? = some (.cells #[.int .i64 e.1, .int .i64 e.2.1, .int .u32 (e.2.2 : Nat)] 34 (0, 0))
theorem EntAt.cells {w : World} {b : Nat} {e : Int × Int × Nat} (h : EntAt w b e) : w.cell? ⟨b, 0, none⟩ = some (.int .i64 e.1) ∧ w.cell? ⟨b, 1, none⟩ = some (.int .i64 e.2.1) ∧ w.cell? ⟨b, 2, none⟩ = some (.int .u32 (e.2.2 : Nat)) := by
  refine ⟨?_, ?_, ?_⟩ <;> rw [cell_of_row _ _ _ _ _ _ h] <;> rfl
theorem EntAt.below {w w' : World} {b : Nat} {e : Int × Int × Nat} (h : EntAt w b e) (hb : Below w.heap.size w w') : EntAt w' b e := (hb.block b (lt_of_heap h)).trans h
theorem EntAt.frozen {w : World} {b : Nat} {e : Int × Int × Nat} (h : EntAt w b e) (i : Nat) : w.frozen? ⟨b, i, none⟩ = false := by
  simp [World.frozen?, show w.heap[b]? = _ from h]
theorem EntAt.set {w : World} {b : Nat} {e : Int × Int × Nat} (h : EntAt w b e) (s g : Int) (u : Nat) : EntAt (((w.setCell ⟨b, 0, none⟩ (.int .i64 s)).setCell ⟨b, 1, none⟩ (.int .i64 g)).setCell ⟨b, 2, none⟩ (.int .u32 (u : Nat))) b (s, g, u) :=
  (heap_set_row (heap_set_row (heap_set_row h 0 _) 1 _) 2 _).trans rfl

end Go.Proofs.YtjhkcdnfnmglhaaDoor

/- Maps from keys to entries; contracts of entry.lay and entry.Find. -/
namespace Go.Proofs.YtjhkcdnfnmglhaaDoor
open Go.RowKit Go.Maps
set_option linter.unusedVariables false
set_option maxRecDepth 20000

abbrev Ent : Type := Int × Int × Nat
abbrev evalE (e : Ent) : Value := .agg #[.int .i64 e.1, .int .i64 e.2.1, .int .u32 (e.2.2 : Nat)]
/-- What an entry reads as. -/
def edat (e : Ent) : Dw := .agg [.lit (.int .i64 e.1), .lit (.int .i64 e.2.1), .lit (.int .u32 (e.2.2 : Nat))]
def entR (v : Value) : Option (Dw × List MemPlace) := match v with
  | .agg cs => match cs.toList with
    | [v0, v1, v2] => match v0, v1, v2 with
      | .int .i64 s, .int .i64 g, .int .u32 u => if 0 ≤ u then some (edat (s, g, u.toNat), []) else none
      | _, _, _ => none
    | _ => none
  | _ => none
theorem entR_mk (e : Ent) : entR (evalE e) = some (edat e, []) := by
  obtain ⟨s, g, u⟩ := e
  show (if 0 ≤ ((u : Nat) : Int) then some (edat (s, g, ((u : Nat) : Int).toNat), []) else none) = some (edat (s, g, u), [])
  rw [if_pos (Int.natCast_nonneg u), Int.toNat_natCast]
theorem entR_inv {v : Value} {y : Dw × List MemPlace} (h : entR v = some y) : ∃ e : Ent, v = evalE e ∧ y = (edat e, []) := by
  unfold entR at h
  split at h
  · rename_i cs
    split at h
    · rename_i v0 v1 v2 hcs
      split at h
      · rename_i s g u
        split at h
        · rename_i hu
          cases h
          refine ⟨(s, g, u.toNat), ?_, rfl⟩
          have : cs = #[.int .i64 s, .int .i64 g, .int .u32 u] := by
            apply Array.ext'
            simpa using hcs
          rw [this]
          simp [evalE, Int.toNat_of_nonneg hu]
        · cases h
      · cases h
    · cases h
  · cases h
theorem edat_inj {a b : Ent} (h : edat a = edat b) : a = b := by
  obtain ⟨a1, a2, a3⟩ := a
  obtain ⟨b1, b2, b3⟩ := b
  simp only [edat, DataW.agg.injEq, List.cons.injEq, DataW.lit.injEq, Lit.int.injEq, true_and, and_true] at h
  obtain ⟨h1, h2, h3⟩ := h
  rw [h1, h2, show a3 = b3 by omega]

/-- The entries of ks. -/
structure EntD (D : Dw) (ks : List Ky) (f : Ky → Ent) : Prop where
  fit : ∀ k ∈ ks, KI k
  isMap : IsMap D
  has : ∀ k, KI k → Maps.has D (klit k) = decide (k ∈ ks)
  val : ∀ k, k ∈ ks → ∀ z, D.atKey (klit k) z = edat (f k)
def putF (f : Ky → Ent) (k : Ky) (e : Ent) : Ky → Ent := fun x => if x = k then e else f x
def cutK (ks : List Ky) (k : Ky) : List Ky := ks.filter fun x => !decide (x = k)
theorem EntD.nil (f : Ky → Ent) : EntD (.map []) [] f := ⟨by simp, isMap_empty, fun k _ => rfl, by simp⟩
theorem EntD.put {D : Dw} {ks : List Ky} {f : Ky → Ent} (h : EntD D ks f) {k : Ky} (hk : KI k) (e : Ent) : EntD (D.put (klit k) (edat e)) (ks ++ [k]) (putF f k e) := by
  refine ⟨fun x hx => ?_, h.isMap.put _ _, fun x hx => ?_, fun x hx z => ?_⟩
  · rw [List.mem_append, List.mem_singleton] at hx
    exact hx.elim (h.fit x) (fun e' => e' ▸ hk)
  · by_cases q : x = k
    · subst q
      rw [has_put_same h.isMap (klit_key x)]
      simp
    · rw [has_put_other (fun e' => q (klit_inj hx hk e')), h.has x hx]
      simp [q]
  · by_cases q : x = k
    · subst q
      rw [atKey_put_same h.isMap (klit_key x)]
      simp [putF]
    · have hx' : x ∈ ks := by
        rw [List.mem_append, List.mem_singleton] at hx
        exact hx.resolve_right q
      rw [atKey_put_other (fun e' => q (klit_inj (h.fit x hx') hk e')), h.val x hx']
      simp [putF, q]
theorem EntD.del {D : Dw} {ks : List Ky} {f : Ky → Ent} (h : EntD D ks f) {k : Ky} (hk : KI k) : EntD (D.del (klit k)) (cutK ks k) f := by
  have hm : ∀ x, x ∈ cutK ks k ↔ x ∈ ks ∧ x ≠ k := fun x => by simp [cutK]
  refine ⟨fun x hx => h.fit x ((hm x).1 hx).1, h.isMap.del _, fun x hx => ?_, fun x hx z => ?_⟩
  · by_cases q : x = k
    · subst q
      rw [has_del_same]
      simp [hm]
    · rw [has_del_other (fun e' => q (klit_inj hx hk e')), h.has x hx]
      simp [hm, q]
  · have h2 := (hm x).1 hx
    rw [atKey_del_other (fun e' => h2.2 (klit_inj (h.fit x h2.1) hk e')), h.val x h2.1]
/-- The map's block. -/
def MapE (w : World) (b n : Nat) (ks : List Ky) (f : Ky → Ent) : Prop := ∃ D : Dw, w.ownsMap Tryd.prog 29 entR b n D ∧ EntD D ks f
theorem zeroEn (w : World) : (zeroValue 34).run Tryd.prog w = .ok (evalE (0, 0, 0)) w := by kernel_rfl
theorem MapE.made (w : World) (f : Ky → Ent) : MapE (w.alloc (.map #[] 0)) w.heap.size 0 [] f := ⟨_, World.ownsMap_made _ _ _ _, EntD.nil f⟩
theorem MapE.lt {w : World} {b n : Nat} {ks : List Ky} {f : Ky → Ent} (h : MapE w b n ks f) : b < w.heap.size := by
  obtain ⟨D, h1, _⟩ := h
  exact h1.lt
theorem MapE.grown {w w' : World} {b n : Nat} {ks : List Ky} {f : Ky → Ent} {row : Option Nat} (h : MapE w b n ks f) (hg : w.grownBy w' row) (hne : some b ≠ row) : MapE w' b n ks f := by
  obtain ⟨D, h1, h2⟩ := h
  exact ⟨D, h1.kept hg hne, h2⟩
theorem MapE.kept {w w' : World} {b n : Nat} {ks : List Ky} {f : Ky → Ent} (h : MapE w b n ks f) (hb : Below w.heap.size w w') : MapE w' b n ks f := h.grown (grown_below hb) (by simp)
theorem MapE.put {w : World} {b n : Nat} {ks : List Ky} {f : Ky → Ent} (h : MapE w b n ks f) (hn : n < 100000) {k : Ky} (hk : KI k) (e : Ent) :
    ∃ w', (Instr.mapUpdate 51 (.map (some b)) (.agg #[.int .i64 k.1, .int .i64 k.2]) (evalE e)).run Tryd.prog w = .ok () w' ∧ MapE w' b (n + 1) (ks ++ [k]) (putF f k e) ∧ w.grownBy w' (some b) := by
  obtain ⟨D, h1, h2⟩ := h
  obtain ⟨w', hr, ho, hg⟩ := h1.update lawK Tryd.underlying51 (by unfold maxLen; omega) (keyOf_k hk) (entR_mk e)
  exact ⟨w', hr, ⟨_, ho, h2.put hk e⟩, hg⟩
theorem MapE.look {w : World} {b n : Nat} {ks : List Ky} {f : Ky → Ent} (h : MapE w b n ks f) {k : Ky} (hk : k ∈ ks) :
    (Instr.lookup 51 (.map (some b)) (.agg #[.int .i64 k.1, .int .i64 k.2]) false).run Tryd.prog w = .ok (evalE (f k)) w := by
  obtain ⟨D, h1, h2⟩ := h
  obtain ⟨v, ps, hr, hv⟩ := h1.lookup lawK Tryd.underlying51 (zeroEn w) (entR_mk _) (keyOf_k (h2.fit k hk))
  rw [h2.val k hk] at hv
  obtain ⟨e, rfl, he⟩ := entR_inv hv
  rw [hr, edat_inj (congrArg Prod.fst he)]
/-- 'delete(m, k)'. -/
theorem wpList_delete_ent {w : World} {ops : Array Oper} {rest : List Oper} {o : Oper} {a : Act} {Q : Exit → Act → World → Prop} (hg : o.guard = none) (m x : Operand) (hop : o.op = Op.call { callee := Callee.builtin Builtin.delete, args := #[m, x], argTypes := #[51, 29] })
    {b n : Nat} {ks : List Ky} {f : Ky → Ent} (h : MapE w b n ks f) {k : Ky} (hk : KI k) (hm : a.eval m = .map (some b)) (hx : a.eval x = .agg #[.int .i64 k.1, .int .i64 k.2])
    (hK : ∀ w', Hid (MapE w' b n (cutK ks k) f) → Hid (w.grownBy w' (some b)) → wpList Tryd.prog ops Q rest (a.put o.dst (.tuple #[])) w') : wpList Tryd.prog ops Q (o :: rest) a w := by
  obtain ⟨D, h1, h2⟩ := h
  refine wpList_delete_own w hg m x _ _ hop 34 lawK Tryd.underlying51 entR b n D hm h1 _ _ hx (keyOf_k hk) ?_
  intro w' ho ht
  exact hK w' ⟨_, ho, h2.del hk⟩ ht.grown

/-! ### lay -/
def layF (f : Ky → Ent) (l : List Md) : Ky → Ent := l.foldl (fun f m => putF f m.k (m.s, m.g, m.u)) f
theorem layF_snoc {f : Ky → Ent} {l : List Md} {k : Nat} {m : Md} (h : l[k]? = some m) : layF f (l.take (k + 1)) = putF (layF f (l.take k)) m.k (m.s, m.g, m.u) := by
  unfold layF
  rw [take_snocA h, List.foldl_append]
  rfl
theorem mapk_snoc {l : List Md} {k : Nat} {m : Md} (h : l[k]? = some m) : (l.take (k + 1)).map Md.k = (l.take k).map Md.k ++ [m.k] := by
  rw [take_snocA h, List.map_append]
  rfl
theorem cells2' {w : World} {X : Nat} {a b : Value} {T : TypeId} (h : w.heap[X]? = some (.cells #[a, b] T (0, 0))) : w.cell? ⟨X, 0, none⟩ = some a ∧ w.cell? ⟨X, 1, none⟩ = some b := by
  refine ⟨?_, ?_⟩ <;> simp [World.cell?, h]
/-! ### Find -/
theorem cells3' {w : World} {X : Nat} {a b c : Value} {T : TypeId} (h : w.heap[X]? = some (.cells #[a, b, c] T (0, 0))) : (w.cell? ⟨X, 0, none⟩ = some a ∧ w.cell? ⟨X, 1, none⟩ = some b ∧ w.cell? ⟨X, 2, none⟩ = some c) ∧ ∀ i, w.frozen? ⟨X, i, none⟩ = false := by
  refine ⟨⟨?_, ?_, ?_⟩, fun i => ?_⟩ <;> simp [World.cell?, World.frozen?, h]
end Go.Proofs.YtjhkcdnfnmglhaaDoor

/- Contracts of entry.rising and entry.Apply. -/
namespace Go.Proofs.YtjhkcdnfnmglhaaDoor
open Go.RowKit Go.Maps
set_option linter.unusedVariables false
set_option maxRecDepth 20000

def mdF (f : Ky → Ent) (k : Ky) : Md := ⟨k.1, k.2, (f k).1, (f k).2.1, (f k).2.2⟩
theorem Met10.startE {D : Dw} {ks : List Ky} {f : Ky → Ent} (h : EntD D ks f) : Met10 ks (Maps.has D) [] :=
  ⟨List.nodup_nil, fun k hk => by rw [h.has k hk]; simp, by simp⟩
theorem sortR_alike {ss ks : List Ky} (h : ∀ k, k ∈ ss ↔ k ∈ ks) : sortR ss = sortR ks := rises_same (sortR_rises ss) (sortR_rises ks) fun k => by rw [sortR_mem, sortR_mem, h]
theorem invV11 (v : Value) (y : Dw × List MemPlace) (h : entR v = some y) : ∃ c : Ent, v = evalE c := by
  obtain ⟨e, he, _⟩ := entR_inv h
  exact ⟨e, he⟩

/-! ### Apply -/
def cutAll (ks gs : List Ky) : List Ky := gs.foldl cutK ks
theorem cutAll_snoc {ks gs : List Ky} {k : Nat} {g : Ky} (h : gs[k]? = some g) : cutAll ks (gs.take (k + 1)) = cutK (cutAll ks (gs.take k)) g := by
  unfold cutAll
  rw [take_snocA h, List.foldl_append]
  rfl
theorem cutAll_mem {x : Ky} : ∀ (gs ks : List Ky), x ∈ cutAll ks gs ↔ x ∈ ks ∧ x ∉ gs
  | [], ks => by simp [cutAll]
  | g :: r, ks => by
    show x ∈ cutAll (cutK ks g) r ↔ _
    rw [cutAll_mem r, cutK, List.mem_filter]
    simp [and_assoc]
theorem cutAll_len : ∀ (gs ks : List Ky), (cutAll ks gs).length ≤ ks.length
  | [], ks => Nat.le_refl _
  | g :: r, ks => Nat.le_trans (cutAll_len r (cutK ks g)) (List.length_filter_le _ _)
theorem layF_fold (x : Ky) : ∀ (l : List Md) (f : Ky → Ent), layF f l x = l.foldl (entStep x) (f x)
  | [], f => rfl
  | m :: r, f => by
    show layF (putF f m.k (m.s, m.g, m.u)) r x = r.foldl (entStep x) (entStep x (f x) m)
    rw [layF_fold x r]
    congr 1
    unfold putF entStep
    by_cases e : x = m.k
    · rw [if_pos e, if_pos e.symm]
    · rw [if_neg e, if_neg (fun e' => e e'.symm)]
theorem findM_no {x : Ky} : ∀ {l : List Md}, x ∉ l.map Md.k → findM l x = none
  | [], _ => rfl
  | m :: r, h => by
    rw [List.map_cons, List.mem_cons, not_or] at h
    unfold findM
    rw [if_neg (fun e => h.1 e.symm)]
    exact findM_no h.2
theorem fold_find {x : Ky} : ∀ (l : List Md) (e : Ent), (l.map Md.k).Nodup → l.foldl (entStep x) e = (findM l x).getD e
  | [], e, _ => rfl
  | m :: r, e, h => by
    rw [List.map_cons, List.nodup_cons] at h
    rw [List.foldl_cons, fold_find r _ h.2]
    unfold entStep
    by_cases q : m.k = x
    · rw [if_pos q, findM_no (by rw [← q]; exact h.1)]
      unfold findM
      rw [if_pos q]
      rfl
    · rw [if_neg q]
      conv => rhs; unfold findM
      rw [if_neg q]
theorem apply_is {l puts : List Md} {gone : List Ky} (hn : (l.map Md.k).Nodup) : (sortR (cutAll ([] ++ l.map Md.k) gone ++ puts.map Md.k)).map (mdF (layF (layF (fun _ => (0, 0, 0)) l) puts)) = applyM l puts gone := by
  unfold applyM
  have h1 : sortR (cutAll ([] ++ l.map Md.k) gone ++ puts.map Md.k) = sortR (keysA l puts gone) := sortR_alike fun k => by
    rw [List.nil_append, List.mem_append, cutAll_mem, keysA, List.mem_append, stayK, List.mem_filter]
    simp [hasK]
  rw [h1]
  apply List.map_congr_left
  intro k _
  have h2 : layF (layF (fun _ => (0, 0, 0)) l) puts k = entA l puts k := by
    rw [layF_fold, layF_fold, fold_find l _ hn]
    rfl
  unfold mdF mdA
  rw [h2]

end Go.Proofs.YtjhkcdnfnmglhaaDoor

/- An overlay in plain lists: what is there behind each call. No Go in sight but the lists of layer 11 and the board of layer 9. -/
namespace Go.Proofs.YtjhkcdnfnmglhaaDoor
open Go.RowKit
set_option linter.unusedVariables false
set_option maxRecDepth 20000

/-! ### Lists by rising keys -/
def Rise (l : List Md) : Prop := (l.map Md.k).Pairwise KLt
theorem Rise.nodup {l : List Md} (h : Rise l) : (l.map Md.k).Nodup := rises_nodup h
theorem Rise.nil : Rise [] := by simp [Rise]
theorem isSome_find {x : Ky} : ∀ {l : List Md}, (findM l x).isSome = decide (x ∈ l.map Md.k)
  | [] => rfl
  | m :: r => by
    unfold findM
    by_cases e : m.k = x
    · rw [if_pos e, e.symm]
      simp
    · rw [if_neg e, isSome_find]
      have : ¬ x = m.k := fun e' => e e'.symm
      simp [this]
theorem find_in {l : List Md} {x : Ky} (h : x ∈ l.map Md.k) : ∃ e, findM l x = some e := by
  have := isSome_find (l := l) (x := x)
  rw [decide_eq_true h] at this
  exact Option.isSome_iff_exists.1 this
theorem find_out {l : List Md} {x : Ky} : findM l x = none ↔ x ∉ l.map Md.k := by
  have := isSome_find (l := l) (x := x)
  cases hf : findM l x with
  | none =>
    rw [hf] at this
    simp only [Option.isSome_none] at this
    exact ⟨fun _ h => (by rw [decide_eq_true h] at this; cases this), fun _ => rfl⟩
  | some e =>
    rw [hf] at this
    simp only [Option.isSome_some] at this
    have h1 : x ∈ l.map Md.k := of_decide_eq_true this.symm
    exact ⟨fun h => (by cases h), fun h => absurd h1 h⟩
def md (k : Ky) (e : Ent) : Md := ⟨k.1, k.2, e.1, e.2.1, e.2.2⟩
theorem md_k (k : Ky) (e : Ent) : (md k e).k = k := rfl
theorem md_self (m : Md) : md m.k (m.s, m.g, m.u) = m := rfl
theorem find_mem {l : List Md} {x : Ky} {e : Ent} (h : findM l x = some e) : md x e ∈ l := by
  induction l with
  | nil => cases h
  | cons m r ih =>
    unfold findM at h
    split at h
    · rename_i hk
      injection h with h
      subst h hk
      exact .head _
    · exact .tail _ (ih h)
theorem mem_find {l : List Md} (hn : (l.map Md.k).Nodup) {m : Md} (h : m ∈ l) : findM l m.k = some (m.s, m.g, m.u) := by
  induction l with
  | nil => cases h
  | cons a r ih =>
    rw [List.map_cons, List.nodup_cons] at hn
    unfold findM
    rcases List.mem_cons.1 h with e | e
    · subst e
      rw [if_pos rfl]
    · have : a.k ≠ m.k := fun e' => hn.1 (by rw [e']; exact List.mem_map_of_mem e)
      rw [if_neg this]
      exact ih hn.2 e
theorem list_is {l : List Md} (hn : (l.map Md.k).Nodup) : l = (l.map Md.k).map fun k => md k ((findM l k).getD (0, 0, 0)) := by
  rw [List.map_map]
  conv => lhs; rw [← List.map_id l]
  apply List.map_congr_left
  intro m hm
  simp only [Function.comp, mem_find hn hm, Option.getD_some]
  rfl
/-- Two lists by rising keys that find alike are one. -/
theorem rise_ext {l m : List Md} (hl : Rise l) (hm : Rise m) (h : ∀ k, findM l k = findM m k) : l = m := by
  have hk : l.map Md.k = m.map Md.k := rises_same hl hm fun k => by
    have h1 := isSome_find (l := l) (x := k)
    have h2 := isSome_find (l := m) (x := k)
    rw [h k, h2] at h1
    by_cases e : k ∈ l.map Md.k
    · rw [decide_eq_true e] at h1
      exact ⟨fun _ => of_decide_eq_true h1, fun _ => e⟩
    · rw [decide_eq_false e] at h1
      exact ⟨fun e' => absurd e' e, fun e' => absurd e' (of_decide_eq_false h1)⟩
  rw [list_is hl.nodup, list_is hm.nodup, hk]
  apply List.map_congr_left
  intro k _
  rw [h k]
theorem keys_apply (l puts : List Md) (gone : List Ky) : (applyM l puts gone).map Md.k = sortR (keysA l puts gone) := by
  unfold applyM
  rw [List.map_map]
  exact List.map_id' _
theorem rise_apply (l puts : List Md) (gone : List Ky) : Rise (applyM l puts gone) := by
  unfold Rise
  rw [keys_apply]
  exact sortR_rises _
theorem find_map {l puts : List Md} {x : Ky} : ∀ (T : List Ky), findM (T.map (mdA l puts)) x = if x ∈ T then some (entA l puts x) else none
  | [] => rfl
  | k :: r => by
    rw [List.map_cons]
    unfold findM
    by_cases e : k = x
    · subst e
      rw [if_pos (show (mdA l puts k).k = k from rfl), if_pos (.head _)]
      rfl
    · rw [if_neg (show ¬ (mdA l puts k).k = x from e), find_map r]
      have : ¬ x = k := fun e' => e e'.symm
      simp [this]
theorem find_apply {l puts : List Md} {gone : List Ky} (hp : (puts.map Md.k).Nodup) (x : Ky) :
    findM (applyM l puts gone) x = if x ∈ puts.map Md.k then findM puts x else if x ∈ gone then none else findM l x := by
  have hm : x ∈ sortR (keysA l puts gone) ↔ (x ∈ l.map Md.k ∧ x ∉ gone) ∨ x ∈ puts.map Md.k := by
    rw [sortR_mem, keysA, List.mem_append, stayK, List.mem_filter]
    simp [hasK]
  unfold applyM
  rw [find_map]
  unfold entA
  rw [fold_find puts _ hp]
  by_cases h1 : x ∈ puts.map Md.k
  · obtain ⟨e, he⟩ := find_in h1
    rw [if_pos (hm.2 (.inr h1)), if_pos h1, he]
    rfl
  · rw [if_neg h1, find_out.2 h1]
    by_cases h2 : x ∈ gone
    · rw [if_pos h2, if_neg (fun h => (hm.1 h).elim (fun h => h.2 h2) h1)]
    · rw [if_neg h2]
      by_cases h3 : x ∈ l.map Md.k
      · obtain ⟨e, he⟩ := find_in h3
        rw [if_pos (hm.2 (.inl ⟨h3, h2⟩)), he]
        rfl
      · rw [if_neg (fun h => (hm.1 h).elim (fun h => h3 h.1) h1), find_out.2 h3]
theorem apply_self {l : List Md} (h : Rise l) : applyM l [] [] = l := rise_ext (rise_apply _ _ _) h fun k => by
  rw [find_apply (by simp)]
  simp
def putL (l : List Md) (k : Ky) (e : Ent) : List Md := applyM l [md k e] []
def cutL (l : List Md) (k : Ky) : List Md := applyM l [] [k]
theorem rise_put (l : List Md) (k : Ky) (e : Ent) : Rise (putL l k e) := rise_apply _ _ _
theorem rise_cut (l : List Md) (k : Ky) : Rise (cutL l k) := rise_apply _ _ _
theorem find_put (l : List Md) (k : Ky) (e : Ent) (x : Ky) : findM (putL l k e) x = if x = k then some e else findM l x := by
  unfold putL
  rw [find_apply (by simp)]
  by_cases h : x = k
  · subst h
    simp [md_k, findM]
    rfl
  · simp [md_k, h]
theorem find_cut (l : List Md) (k : Ky) (x : Ky) : findM (cutL l k) x = if x = k then none else findM l x := by
  unfold cutL
  rw [find_apply (by simp)]
  simp

/-! ### An overlay -/
structure Ov where
  n : Nat
  B : Nat → Bool
  base : List Md
  was : List Md
  fresh : List Md
/-- The list of one part: 0 base, 1 was, else fresh. -/
def Ov.part (O : Ov) : Nat → List Md
  | 0 => O.base
  | 1 => O.was
  | _ => O.fresh
/-- A part has an entry for a key. -/
def Ov.Has (O : Ov) (c : Nat) (k : Ky) (e : Ent) : Prop := c < 3 ∧ findM (O.part c) k = some e
structure OvOk (O : Ov) (top : Int) : Prop where
  n1 : 1 ≤ O.n
  n2 : O.n ≤ 65536
  rb : Rise O.base
  rw : Rise O.was
  rf : Rise O.fresh
  tail : ∀ i, O.n ≤ i → O.B i = false
  one : ∀ c k e c' k' e', O.Has c k e → O.Has c' k' e' → e.1 = e'.1 → c = c' ∧ k = k'
  taken : ∀ i : Nat, O.B i = true ↔ ∃ c k e, O.Has c k e ∧ e.1 = (i : Int)
  range : ∀ c k e, O.Has c k e → ∃ s : Nat, e.1 = (s : Int) ∧ s < O.n
  apart : ∀ k e, findM O.base k = some e → findM O.was k = none ∧ findM O.fresh k = none
  fit : ∀ c k e, O.Has c k e → isR k = true ∧ 1 ≤ e.2.1 ∧ e.2.1 ≤ top ∧ e.2.2 < 4294967296
theorem OvOk.more {O : Ov} {t t' : Int} (h : OvOk O t) (ht : t ≤ t') : OvOk O t' :=
  { h with fit := fun c k e hh => by have := h.fit c k e hh; exact ⟨this.1, this.2.1, Int.le_trans this.2.2.1 ht, this.2.2.2⟩ }

/-! #### What a key has in base goes to was -/
def retireO (O : Ov) (k : Ky) : Ov := match findM O.base k with
  | some e => { O with was := putL O.was k e, base := cutL O.base k }
  | none => O
theorem retire_none {O : Ov} {k : Ky} (h : findM O.base k = none) : retireO O k = O := by unfold retireO; rw [h]
theorem retire_some {O : Ov} {k : Ky} {e : Ent} (h : findM O.base k = some e) : retireO O k = { O with was := putL O.was k e, base := cutL O.base k } := by unfold retireO; rw [h]
theorem retire_base (O : Ov) (k x : Ky) : findM (retireO O k).base x = if x = k then none else findM O.base x := by
  cases h : findM O.base k with
  | none =>
    rw [retire_none h]
    by_cases e : x = k
    · rw [if_pos e, e, h]
    · rw [if_neg e]
  | some e => rw [retire_some h]; exact find_cut _ _ _
theorem retire_was (O : Ov) (k x : Ky) : findM (retireO O k).was x = if x = k then (findM O.base k).or (findM O.was k) else findM O.was x := by
  cases h : findM O.base k with
  | none =>
    rw [retire_none h]
    by_cases e : x = k
    · rw [if_pos e, e]; rfl
    · rw [if_neg e]
  | some e =>
    rw [retire_some h]
    show findM (putL O.was k e) x = _
    rw [find_put]
    rfl
theorem retire_fresh (O : Ov) (k : Ky) : (retireO O k).fresh = O.fresh := by
  cases h : findM O.base k with
  | none => rw [retire_none h]
  | some e => rw [retire_some h]
theorem retire_n (O : Ov) (k : Ky) : (retireO O k).n = O.n ∧ (retireO O k).B = O.B := by
  cases h : findM O.base k with
  | none => rw [retire_none h]; exact ⟨rfl, rfl⟩
  | some e => rw [retire_some h]; exact ⟨rfl, rfl⟩
/-- Where an entry of the new one was. -/
theorem retire_has {O : Ov} {k : Ky} (ha : findM O.base k = none ∨ findM O.was k = none) {c : Nat} {x : Ky} {e : Ent} (h : (retireO O k).Has c x e) : ∃ c0, O.Has c0 x e ∧ (c0 = c ∨ (x = k ∧ c0 = 0 ∧ c = 1)) ∧ (x = k → c ≠ 0) := by
  obtain ⟨hc, h⟩ := h
  match c, hc, h with
  | 0, hc, h =>
    have h' : findM (retireO O k).base x = some e := h
    rw [retire_base] at h'
    split at h'
    · cases h'
    · rename_i hx
      exact ⟨0, ⟨hc, h'⟩, .inl rfl, fun e' => absurd e' hx⟩
  | 1, hc, h =>
    have h' : findM (retireO O k).was x = some e := h
    rw [retire_was] at h'
    split at h'
    · rename_i hx
      subst hx
      cases hb : findM O.base x with
      | none =>
        rw [hb] at h'
        exact ⟨1, ⟨hc, h'⟩, .inl rfl, fun _ => by decide⟩
      | some e0 =>
        rw [hb] at h'
        simp only [Option.some_or, Option.some.injEq] at h'
        subst h'
        exact ⟨0, ⟨by decide, hb⟩, .inr ⟨rfl, rfl, rfl⟩, fun _ => by decide⟩
    · exact ⟨1, ⟨hc, h'⟩, .inl rfl, fun _ => by decide⟩
  | 2, hc, h =>
    have h' : findM (retireO O k).fresh x = some e := h
    rw [retire_fresh] at h'
    exact ⟨2, ⟨hc, h'⟩, .inl rfl, fun _ => by decide⟩
  | c + 3, hc, h => omega
theorem has_retire {O : Ov} {k : Ky} (ha : findM O.base k = none ∨ findM O.was k = none) {c : Nat} {x : Ky} {e : Ent} (h : O.Has c x e) : ∃ c', (retireO O k).Has c' x e := by
  obtain ⟨hc, h⟩ := h
  match c, hc, h with
  | 0, hc, h =>
    have h' : findM O.base x = some e := h
    by_cases hx : x = k
    · subst hx
      refine ⟨1, by decide, ?_⟩
      show findM (retireO O x).was x = _
      rw [retire_was, if_pos rfl, h']
      rfl
    · refine ⟨0, by decide, ?_⟩
      show findM (retireO O k).base x = _
      rw [retire_base, if_neg hx, h']
  | 1, hc, h =>
    have h' : findM O.was x = some e := h
    refine ⟨1, by decide, ?_⟩
    show findM (retireO O k).was x = _
    rw [retire_was]
    by_cases hx : x = k
    · subst hx
      rw [if_pos rfl]
      rcases ha with h1 | h1
      · rw [h1, h']; rfl
      · rw [h1] at h'; cases h'
    · rw [if_neg hx, h']
  | 2, hc, h =>
    have h' : findM O.fresh x = some e := h
    refine ⟨2, by decide, ?_⟩
    show findM (retireO O k).fresh x = _
    rw [retire_fresh, h']
  | c + 3, hc, h => omega
theorem base_was {O : Ov} {t : Int} (h : OvOk O t) (k : Ky) : findM O.base k = none ∨ findM O.was k = none := by
  cases hb : findM O.base k with
  | none => exact .inl rfl
  | some e => exact .inr (h.apart k e hb).1
theorem retire_ok {O : Ov} {t : Int} (h : OvOk O t) (k : Ky) : OvOk (retireO O k) t where
  n1 := by rw [(retire_n O k).1]; exact h.n1
  n2 := by rw [(retire_n O k).1]; exact h.n2
  rb := by cases hb : findM O.base k with
    | none => rw [retire_none hb]; exact h.rb
    | some e => rw [retire_some hb]; exact rise_cut _ _
  rw := by cases hb : findM O.base k with
    | none => rw [retire_none hb]; exact h.rw
    | some e => rw [retire_some hb]; exact rise_put _ _ _
  rf := by rw [retire_fresh]; exact h.rf
  tail := by rw [(retire_n O k).1, (retire_n O k).2]; exact h.tail
  one := by
    intro c x e c' x' e' h1 h2 he
    obtain ⟨c0, g1, q1, r1⟩ := retire_has (base_was h k) h1
    obtain ⟨c1, g2, q2, r2⟩ := retire_has (base_was h k) h2
    obtain ⟨hc, hx⟩ := h.one _ _ _ _ _ _ g1 g2 he
    subst hc hx
    refine ⟨?_, rfl⟩
    rcases q1 with q1 | ⟨qx, q1, q1'⟩
    · rcases q2 with q2 | ⟨qx, q2, q2'⟩
      · omega
      · have := r1 qx
        omega
    · rcases q2 with q2 | ⟨_, q2, q2'⟩
      · have := r2 qx
        omega
      · omega
  taken := by
    intro i
    rw [(retire_n O k).2, h.taken]
    constructor
    · rintro ⟨c, x, e, h1, h2⟩
      obtain ⟨c', h3⟩ := has_retire (base_was h k) h1
      exact ⟨c', x, e, h3, h2⟩
    · rintro ⟨c, x, e, h1, h2⟩
      obtain ⟨c0, h3, _, _⟩ := retire_has (base_was h k) h1
      exact ⟨c0, x, e, h3, h2⟩
  range := by
    intro c x e h1
    obtain ⟨c0, h3, _, _⟩ := retire_has (base_was h k) h1
    rw [(retire_n O k).1]
    exact h.range _ _ _ h3
  apart := by
    intro x e h1
    rw [retire_base] at h1
    split at h1
    · cases h1
    · rename_i hx
      rw [retire_was, if_neg hx, retire_fresh]
      exact h.apart x e h1
  fit := by
    intro c x e h1
    obtain ⟨c0, h3, _, _⟩ := retire_has (base_was h k) h1
    exact h.fit _ _ _ h3
end Go.Proofs.YtjhkcdnfnmglhaaDoor

/- An overlay in plain lists: Put, Sum, Drop, Commit keep what holds of it. -/
namespace Go.Proofs.YtjhkcdnfnmglhaaDoor
open Go.RowKit
set_option linter.unusedVariables false
set_option maxRecDepth 20000

theorem part2 (O : Ov) : O.part 2 = O.fresh := rfl
/-! ### An entry of fresh turned, in its own slot -/
def setF (O : Ov) (k : Ky) (e : Ent) : Ov := { O with fresh := putL O.fresh k e }
theorem setF_has {O : Ov} {k : Ky} {e0 e' : Ent} (h0 : findM O.fresh k = some e0) (hs : e'.1 = e0.1) {c : Nat} {x : Ky} {e : Ent} (h : (setF O k e').Has c x e) : ∃ e1, O.Has c x e1 ∧ e1.1 = e.1 ∧ (e = e1 ∨ (x = k ∧ e = e')) := by
  obtain ⟨hc, h⟩ := h
  match c, hc, h with
  | 0, hc, h => exact ⟨e, ⟨hc, h⟩, rfl, .inl rfl⟩
  | 1, hc, h => exact ⟨e, ⟨hc, h⟩, rfl, .inl rfl⟩
  | 2, hc, h =>
    have h' : findM (putL O.fresh k e') x = some e := h
    rw [find_put] at h'
    split at h'
    · rename_i hx
      injection h' with h'
      subst hx h'
      exact ⟨e0, ⟨hc, h0⟩, hs.symm, .inr ⟨rfl, rfl⟩⟩
    · exact ⟨e, ⟨hc, h'⟩, rfl, .inl rfl⟩
  | c + 3, hc, h => omega
theorem has_setF {O : Ov} {k : Ky} {e0 e' : Ent} (h0 : findM O.fresh k = some e0) (hs : e'.1 = e0.1) {c : Nat} {x : Ky} {e : Ent} (h : O.Has c x e) : ∃ e1, (setF O k e').Has c x e1 ∧ e1.1 = e.1 := by
  obtain ⟨hc, h⟩ := h
  match c, hc, h with
  | 0, hc, h => exact ⟨e, ⟨hc, h⟩, rfl⟩
  | 1, hc, h => exact ⟨e, ⟨hc, h⟩, rfl⟩
  | 2, hc, h =>
    have h' : findM O.fresh x = some e := h
    by_cases hx : x = k
    · subst hx
      refine ⟨e', ⟨hc, ?_⟩, ?_⟩
      · show findM (putL O.fresh x e') x = _
        rw [find_put, if_pos rfl]
      · rw [h0, Option.some.injEq] at h'
        rw [hs, h']
    · refine ⟨e, ⟨hc, ?_⟩, rfl⟩
      show findM (putL O.fresh k e') x = _
      rw [find_put, if_neg hx, h']
  | c + 3, hc, h => omega
theorem setF_ok {O : Ov} {t t' : Int} (h : OvOk O t) (ht : t ≤ t') {k : Ky} {e0 e' : Ent} (h0 : findM O.fresh k = some e0) (hs : e'.1 = e0.1) (hg : 1 ≤ e'.2.1 ∧ e'.2.1 ≤ t' ∧ e'.2.2 < 4294967296) : OvOk (setF O k e') t' where
  n1 := h.n1
  n2 := h.n2
  rb := h.rb
  rw := h.rw
  rf := rise_put _ _ _
  tail := h.tail
  one := by
    intro c x e c' x' e2 h1 h2 he
    obtain ⟨a, ha, q1, _⟩ := setF_has h0 hs h1
    obtain ⟨b, hb, q2, _⟩ := setF_has h0 hs h2
    exact h.one _ _ _ _ _ _ ha hb (q1.trans (he.trans q2.symm))
  taken := by
    intro i
    show O.B i = true ↔ _
    rw [h.taken]
    constructor
    · rintro ⟨c, x, e, h1, h2⟩
      obtain ⟨a, ha, q⟩ := has_setF h0 hs h1
      exact ⟨c, x, a, ha, q.trans h2⟩
    · rintro ⟨c, x, e, h1, h2⟩
      obtain ⟨a, ha, q, _⟩ := setF_has h0 hs h1
      exact ⟨c, x, a, ha, q.trans h2⟩
  range := by
    intro c x e h1
    obtain ⟨a, ha, q, _⟩ := setF_has h0 hs h1
    obtain ⟨s, h2, h3⟩ := h.range _ _ _ ha
    exact ⟨s, q.symm.trans h2, h3⟩
  apart := by
    intro x e h1
    have h2 := h.apart x e h1
    refine ⟨h2.1, ?_⟩
    show findM (putL O.fresh k e') x = none
    rw [find_put, if_neg, h2.2]
    intro hx
    subst hx
    rw [h0] at h2
    cases h2.2
  fit := by
    intro c x e h1
    obtain ⟨a, ha, q, q2⟩ := setF_has h0 hs h1
    have h2 := h.fit _ _ _ ha
    rcases q2 with rfl | ⟨rfl, rfl⟩
    · exact ⟨h2.1, h2.2.1, Int.le_trans h2.2.2.1 ht, h2.2.2.2⟩
    · exact ⟨h2.1, hg⟩

/-! ### A new entry of fresh -/
def addF (O : Ov) (k : Ky) (s : Nat) (g : Int) (u : Nat) : Ov := { O with B := putB O.B s 1 true, fresh := putL O.fresh k ((s : Int), g, u) }
theorem addF_has {O : Ov} {k : Ky} {s : Nat} {g : Int} {u : Nat} {c : Nat} {x : Ky} {e : Ent} (h : (addF O k s g u).Has c x e) : O.Has c x e ∨ (c = 2 ∧ x = k ∧ e = ((s : Int), g, u)) := by
  obtain ⟨hc, h⟩ := h
  match c, hc, h with
  | 0, hc, h => exact .inl ⟨hc, h⟩
  | 1, hc, h => exact .inl ⟨hc, h⟩
  | 2, hc, h =>
    have h' : findM (putL O.fresh k ((s : Int), g, u)) x = some e := h
    rw [find_put] at h'
    split at h'
    · rename_i hx
      injection h' with h'
      exact .inr ⟨rfl, hx, h'.symm⟩
    · exact .inl ⟨hc, h'⟩
  | c + 3, hc, h => omega
theorem has_addF {O : Ov} {k : Ky} {s : Nat} {g : Int} {u : Nat} (h0 : findM O.fresh k = none) {c : Nat} {x : Ky} {e : Ent} (h : O.Has c x e) : (addF O k s g u).Has c x e := by
  obtain ⟨hc, h⟩ := h
  match c, hc, h with
  | 0, hc, h => exact ⟨hc, h⟩
  | 1, hc, h => exact ⟨hc, h⟩
  | 2, hc, h =>
    have h' : findM O.fresh x = some e := h
    refine ⟨hc, ?_⟩
    show findM (putL O.fresh k _) x = _
    rw [find_put, if_neg, h']
    intro hx
    rw [hx, h0] at h'
    cases h'
  | c + 3, hc, h => omega
theorem addF_new (O : Ov) (k : Ky) (s : Nat) (g : Int) (u : Nat) : (addF O k s g u).Has 2 k ((s : Int), g, u) := ⟨by decide, by show findM (putL O.fresh k _) k = _; rw [find_put, if_pos rfl]⟩
theorem free_not {O : Ov} {t : Int} (h : OvOk O t) {s : Nat} (hs : O.B s = false) {c : Nat} {x : Ky} {e : Ent} (h1 : O.Has c x e) : e.1 ≠ (s : Int) := fun he => by
  have := (h.taken s).2 ⟨c, x, e, h1, he⟩
  rw [hs] at this
  cases this
theorem addF_ok {O : Ov} {t t' : Int} (h : OvOk O t) (ht : t ≤ t') {k : Ky} {s : Nat} {g : Int} {u : Nat} (h0 : findM O.fresh k = none) (hb : findM O.base k = none) (hs : O.B s = false) (hn : s < O.n) (hr : isR k = true) (hg : 1 ≤ g ∧ g ≤ t' ∧ u < 4294967296) : OvOk (addF O k s g u) t' where
  n1 := h.n1
  n2 := h.n2
  rb := h.rb
  rw := h.rw
  rf := rise_put _ _ _
  tail := tail_put true h.tail hn
  one := by
    intro c x e c' x' e2 h1 h2 he
    rcases addF_has h1 with a | ⟨rfl, rfl, rfl⟩
    · rcases addF_has h2 with b | ⟨rfl, rfl, rfl⟩
      · exact h.one _ _ _ _ _ _ a b he
      · exact absurd he (free_not h hs a)
    · rcases addF_has h2 with b | ⟨rfl, rfl, rfl⟩
      · exact absurd he.symm (free_not h hs b)
      · exact ⟨rfl, rfl⟩
  taken := by
    intro i
    show putB O.B s 1 true i = true ↔ _
    by_cases hi : i = s
    · subst hi
      rw [putB_at]
      exact ⟨fun _ => ⟨2, k, _, addF_new O k i g u, rfl⟩, fun _ => rfl⟩
    · rw [putB_off _ hi, h.taken]
      constructor
      · rintro ⟨c, x, e, h1, h2⟩
        exact ⟨c, x, e, has_addF h0 h1, h2⟩
      · rintro ⟨c, x, e, h1, h2⟩
        rcases addF_has h1 with a | ⟨rfl, rfl, rfl⟩
        · exact ⟨c, x, e, a, h2⟩
        · simp only at h2
          omega
  range := by
    intro c x e h1
    rcases addF_has h1 with a | ⟨rfl, rfl, rfl⟩
    · exact h.range _ _ _ a
    · exact ⟨s, rfl, hn⟩
  apart := by
    intro x e h1
    have h1' : findM O.base x = some e := h1
    have h2 := h.apart x e h1'
    refine ⟨h2.1, ?_⟩
    show findM (putL O.fresh k _) x = none
    rw [find_put, if_neg, h2.2]
    intro hx
    rw [hx, hb] at h1'
    cases h1'
  fit := by
    intro c x e h1
    rcases addF_has h1 with a | ⟨rfl, rfl, rfl⟩
    · have h2 := h.fit _ _ _ a
      exact ⟨h2.1, h2.2.1, Int.le_trans h2.2.2.1 ht, h2.2.2.2⟩
    · exact ⟨hr, hg⟩

/-! ### Put -/
def genO (O : Ov) (k : Ky) : Int := ((findM (retireO O k).was k).getD (0, 0, 0)).2.1
def PutRel (O : Ov) (k : Ky) (O' : Ov) (x : Ent) (err : Int) : Prop :=
  (isR k = false ∧ O' = O ∧ x = (0, 0, 0) ∧ err = 2) ∨
  (isR k = true ∧ ∃ e, findM O.fresh k = some e ∧ O' = setF O k (e.1, e.2.1 + 1, 0) ∧ x = (e.1, e.2.1 + 1, 0) ∧ err = 0) ∨
  (isR k = true ∧ findM O.fresh k = none ∧ (∀ i, i < O.n → O.B i = true) ∧ O' = O ∧ x = (0, 0, 0) ∧ err = 12) ∨
  (isR k = true ∧ findM O.fresh k = none ∧ ∃ s : Nat, IsTake O.B O.n s ∧ O' = addF (retireO O k) k s (genO O k + 1) 0 ∧ x = ((s : Int), genO O k + 1, 0) ∧ err = 0)
theorem PutRel.same {O O1 O2 : Ov} {k : Ky} {x1 x2 : Ent} {e1 e2 : Int} (ht : ∀ i, O.n ≤ i → O.B i = false) (h : PutRel O k O1 x1 e1) (g : PutRel O k O2 x2 e2) : O1 = O2 ∧ x1 = x2 ∧ e1 = e2 := by
  rcases h with ⟨a, rfl, rfl, rfl⟩ | ⟨a, e, b, rfl, rfl, rfl⟩ | ⟨a, b, c, rfl, rfl, rfl⟩ | ⟨a, b, s, c, rfl, rfl, rfl⟩ <;> rcases g with ⟨a', rfl, rfl, rfl⟩ | ⟨a', e', b', rfl, rfl, rfl⟩ | ⟨a', b', c', rfl, rfl, rfl⟩ | ⟨a', b', s', c', rfl, rfl, rfl⟩
  · exact ⟨rfl, rfl, rfl⟩
  · rw [a] at a'; cases a'
  · rw [a] at a'; cases a'
  · rw [a] at a'; cases a'
  · rw [a] at a'; cases a'
  · rw [b, Option.some.injEq] at b'; subst b'; exact ⟨rfl, rfl, rfl⟩
  · rw [b] at b'; cases b'
  · rw [b] at b'; cases b'
  · rw [a] at a'; cases a'
  · rw [b] at b'; cases b'
  · exact ⟨rfl, rfl, rfl⟩
  · have := c s' c'.lt; rw [c'.free] at this; cases this
  · rw [a] at a'; cases a'
  · rw [b] at b'; cases b'
  · have := c' s c.lt; rw [c.free] at this; cases this
  · obtain rfl := c.same ht c'; exact ⟨rfl, rfl, rfl⟩
theorem genO_bd {O : Ov} {t : Int} (h : OvOk O t) (h0 : 0 ≤ t) (k : Ky) : 0 ≤ genO O k ∧ genO O k ≤ t := by
  unfold genO
  cases hf : findM (retireO O k).was k with
  | none => exact ⟨Int.le_refl _, h0⟩
  | some e =>
    have := (retire_ok h k).fit 1 k e ⟨by decide, hf⟩
    simp only [Option.getD_some]
    omega
theorem put_ok12 {O O' : Ov} {t : Int} {k : Ky} {x : Ent} {err : Int} (h : OvOk O t) (h0 : 0 ≤ t) (hp : PutRel O k O' x err) : OvOk O' (t + 1) := by
  rcases hp with ⟨_, rfl, _, _⟩ | ⟨_, e, he, rfl, _, _⟩ | ⟨_, _, _, rfl, _, _⟩ | ⟨hr, hf, s, hs, rfl, _, _⟩
  · exact h.more (by omega)
  · have := h.fit 2 k e ⟨by decide, he⟩
    exact setF_ok h (by omega) he rfl ⟨by simp only; omega, by simp only; omega, by simp⟩
  · exact h.more (by omega)
  · have hg := genO_bd h h0 k
    refine addF_ok (retire_ok h k) (by omega) (by rw [retire_fresh]; exact hf) (by rw [retire_base, if_pos rfl]) (by rw [(retire_n O k).2]; exact hs.free) (by rw [(retire_n O k).1]; exact hs.lt) hr ⟨by omega, by omega, by decide⟩

/-! ### Sum -/
def sumO (O : Ov) (k : Ky) (u : Nat) : Ov × Int := match findM O.fresh k with
  | some e => (setF O k (e.1, e.2.1, u), 0)
  | none => (O, 2)
theorem sum_ok12 {O : Ov} {t : Int} (h : OvOk O t) (k : Ky) {u : Nat} (hu : u < 4294967296) : OvOk (sumO O k u).1 t := by
  unfold sumO
  cases hf : findM O.fresh k with
  | none => exact h
  | some e =>
    have := h.fit 2 k e ⟨by decide, hf⟩
    exact setF_ok h (Int.le_refl _) hf rfl ⟨this.2.1, this.2.2.1, hu⟩

/-! ### Drop -/
def cutF (O : Ov) (k : Ky) (s : Int) : Ov := { O with B := giveB O.B [s], fresh := cutL O.fresh k }
theorem cutF_has {O : Ov} {k : Ky} {s : Int} {c : Nat} {x : Ky} {e : Ent} (h : (cutF O k s).Has c x e) : O.Has c x e ∧ ¬ (c = 2 ∧ x = k) := by
  obtain ⟨hc, h⟩ := h
  match c, hc, h with
  | 0, hc, h => exact ⟨⟨hc, h⟩, by omega⟩
  | 1, hc, h => exact ⟨⟨hc, h⟩, by omega⟩
  | 2, hc, h =>
    have h' : findM (cutL O.fresh k) x = some e := h
    rw [find_cut] at h'
    split at h'
    · cases h'
    · rename_i hx
      exact ⟨⟨hc, h'⟩, fun q => hx q.2⟩
  | c + 3, hc, h => omega
theorem has_cutF {O : Ov} {k : Ky} {s : Int} {c : Nat} {x : Ky} {e : Ent} (h : O.Has c x e) (hn : ¬ (c = 2 ∧ x = k)) : (cutF O k s).Has c x e := by
  obtain ⟨hc, h⟩ := h
  match c, hc, h with
  | 0, hc, h => exact ⟨hc, h⟩
  | 1, hc, h => exact ⟨hc, h⟩
  | 2, hc, h =>
    refine ⟨hc, ?_⟩
    show findM (cutL O.fresh k) x = _
    rw [find_cut, if_neg (fun hx => hn ⟨rfl, hx⟩)]
    exact h
  | c + 3, hc, h => omega
theorem cutF_ok {O : Ov} {t : Int} (h : OvOk O t) {k : Ky} {e0 : Ent} (h0 : findM O.fresh k = some e0) : OvOk (cutF O k e0.1) t where
  n1 := h.n1
  n2 := h.n2
  rb := h.rb
  rw := h.rw
  rf := rise_cut _ _
  tail := fun i hi => by
    show giveB O.B _ i = false
    unfold giveB
    rw [h.tail i hi]
    rfl
  one := fun c x e c' x' e2 h1 h2 he => h.one _ _ _ _ _ _ (cutF_has h1).1 (cutF_has h2).1 he
  taken := by
    intro i
    show giveB O.B [e0.1] i = true ↔ _
    unfold giveB
    rw [Bool.and_eq_true, h.taken]
    constructor
    · rintro ⟨⟨c, x, e, h1, h2⟩, h3⟩
      refine ⟨c, x, e, has_cutF h1 ?_, h2⟩
      rintro ⟨rfl, rfl⟩
      have h4 : findM O.fresh x = some e := h1.2
      rw [h0, Option.some.injEq] at h4
      subst h4
      rw [h2] at h3
      simp at h3
    · rintro ⟨c, x, e, h1, h2⟩
      obtain ⟨h3, h4⟩ := cutF_has h1
      refine ⟨⟨c, x, e, h3, h2⟩, ?_⟩
      have h5 : (i : Int) ≠ e0.1 := fun e5 => by
        obtain ⟨q1, q2⟩ := h.one c x e 2 k e0 h3 ⟨by decide, h0⟩ (h2.trans e5)
        exact h4 ⟨q1, q2⟩
      simp [h5]
  range := fun c x e h1 => h.range _ _ _ (cutF_has h1).1
  apart := by
    intro x e h1
    have h2 := h.apart x e h1
    refine ⟨h2.1, ?_⟩
    show findM (cutL O.fresh k) x = none
    rw [find_cut, h2.2]
    split <;> rfl
  fit := fun c x e h1 => h.fit _ _ _ (cutF_has h1).1
def dropO (O : Ov) (k : Ky) : Ov × Bool := match findM O.fresh k with
  | some e => (retireO (cutF O k e.1) k, true)
  | none => (retireO O k, (findM O.base k).isSome)
theorem drop_ok12 {O : Ov} {t : Int} (h : OvOk O t) (k : Ky) : OvOk (dropO O k).1 t := by
  unfold dropO
  cases hf : findM O.fresh k with
  | none => exact retire_ok h k
  | some e => exact retire_ok (cutF_ok h hf) k
theorem slot_good {O : Ov} {t : Int} (h : OvOk O t) {c : Nat} {k : Ky} {e : Ent} (h0 : O.Has c k e) : GoodG O.n O.B [e.1] := by
  refine ⟨by simp, fun z hz => ?_⟩
  rw [List.mem_singleton] at hz
  subst hz
  obtain ⟨s, h1, h2⟩ := h.range _ _ _ h0
  exact ⟨s, h1, h2, (h.taken s).2 ⟨_, _, _, h0, h1⟩⟩

/-! ### Slots, rising -/
def insI (out : List Int) (z : Int) : List Int := out.takeWhile (fun y => decide (y < z)) ++ z :: out.dropWhile (fun y => decide (y < z))
def slotsL (l : List Md) : List Int := l.foldl (fun out m => insI out m.s) []
theorem insI_mem {out : List Int} {z y : Int} : y ∈ insI out z ↔ y = z ∨ y ∈ out := by
  unfold insI
  conv => rhs; rw [← List.takeWhile_append_dropWhile (p := fun y => decide (y < z)) (l := out)]
  simp only [List.mem_append, List.mem_cons]
  constructor
  · rintro (h | h | h)
    · exact .inr (.inl h)
    · exact .inl h
    · exact .inr (.inr h)
  · rintro (h | h | h)
    · exact .inr (.inl h)
    · exact .inl h
    · exact .inr (.inr h)
theorem insI_len (out : List Int) (z : Int) : (insI out z).length = out.length + 1 := by
  unfold insI
  have := congrArg List.length (List.takeWhile_append_dropWhile (p := fun y => decide (y < z)) (l := out))
  simp only [List.length_append, List.length_cons] at *
  omega
theorem slots_snoc (l : List Md) (m : Md) : slotsL (l ++ [m]) = insI (slotsL l) m.s := by simp [slotsL]
theorem slots_len (l : List Md) : (slotsL l).length = l.length := by
  have : ∀ (l : List Md) (out : List Int), (l.foldl (fun out m => insI out m.s) out).length = out.length + l.length := by
    intro l
    induction l with
    | nil => intro out; rfl
    | cons m r ih => intro out; rw [List.foldl_cons, ih, insI_len, List.length_cons]; omega
  have h := this l []
  simpa [slotsL] using h
theorem slots_mem {l : List Md} {y : Int} : y ∈ slotsL l ↔ ∃ m ∈ l, m.s = y := by
  have : ∀ (l : List Md) (out : List Int), y ∈ l.foldl (fun out m => insI out m.s) out ↔ y ∈ out ∨ ∃ m ∈ l, m.s = y := by
    intro l
    induction l with
    | nil => intro out; simp
    | cons m r ih =>
      intro out
      rw [List.foldl_cons, ih, insI_mem]
      constructor
      · rintro ((h | h) | ⟨a, h, h2⟩)
        · exact .inr ⟨m, .head _, h.symm⟩
        · exact .inl h
        · exact .inr ⟨a, .tail _ h, h2⟩
      · rintro (h | ⟨a, h, h2⟩)
        · exact .inl (.inr h)
        · rcases List.mem_cons.1 h with e | e
          · subst e
            exact .inl (.inl h2.symm)
          · exact .inr ⟨a, e, h2⟩
  have h := this l []
  simpa [slotsL] using h
theorem insI_nodup {out : List Int} {z : Int} (h : out.Nodup) (hz : z ∉ out) : (insI out z).Nodup := by
  have h1 := List.takeWhile_append_dropWhile (p := fun y => decide (y < z)) (l := out)
  unfold insI
  rw [← h1] at h hz
  rw [List.nodup_append] at h ⊢
  rw [List.mem_append, not_or] at hz
  refine ⟨h.1, List.nodup_cons.2 ⟨hz.2, h.2.1⟩, fun a ha b hb => ?_⟩
  rcases List.mem_cons.1 hb with e | e
  · subst e
    exact fun e' => hz.1 (e' ▸ ha)
  · exact h.2.2 a ha b e
theorem slots_nodup {l : List Md} (h : (l.map Md.s).Nodup) : (slotsL l).Nodup := by
  have : ∀ (l : List Md) (out : List Int), out.Nodup → (l.map Md.s).Nodup → (∀ m ∈ l, m.s ∉ out) → (l.foldl (fun out m => insI out m.s) out).Nodup := by
    intro l
    induction l with
    | nil => intro out h1 _ _; exact h1
    | cons m r ih =>
      intro out h1 h2 h3
      rw [List.map_cons, List.nodup_cons] at h2
      rw [List.foldl_cons]
      refine ih _ (insI_nodup h1 (h3 m (.head _))) h2.2 fun a ha hm => ?_
      rw [insI_mem] at hm
      rcases hm with e | e
      · exact h2.1 (by rw [← e]; exact List.mem_map_of_mem ha)
      · exact h3 a (.tail _ ha) e
  exact this l [] List.nodup_nil h (fun _ _ => by simp)
theorem part_slots {O : Ov} {t : Int} (h : OvOk O t) {c : Nat} (hc : c < 3) (hr : Rise (O.part c)) : ((O.part c).map Md.s).Nodup := by
  have key : ∀ m ∈ O.part c, O.Has c m.k (m.s, m.g, m.u) := fun m hm => ⟨hc, mem_find hr.nodup hm⟩
  have gen : ∀ l : List Md, (l.map Md.k).Nodup → (∀ m ∈ l, m ∈ O.part c) → (l.map Md.s).Nodup := by
    intro l
    induction l with
    | nil => intro _ _; exact List.nodup_nil
    | cons m r ih =>
      intro h1 h2
      rw [List.map_cons, List.nodup_cons] at h1 ⊢
      refine ⟨fun hm => ?_, ih h1.2 fun a ha => h2 a (.tail _ ha)⟩
      obtain ⟨a, ha, e⟩ := List.mem_map.1 hm
      have q := (h.one _ _ _ _ _ _ (key a (h2 a (.tail _ ha))) (key m (h2 m (.head _))) e).2
      exact h1.1 (by rw [← q]; exact List.mem_map_of_mem ha)
  exact gen _ hr.nodup fun m hm => hm
theorem was_good {O : Ov} {t : Int} (h : OvOk O t) : GoodG O.n O.B (slotsL O.was) := by
  refine ⟨slots_nodup (part_slots h (c := 1) (by decide) h.rw), fun z hz => ?_⟩
  obtain ⟨m, hm, rfl⟩ := slots_mem.1 hz
  have h0 : O.Has 1 m.k (m.s, m.g, m.u) := ⟨by decide, mem_find h.rw.nodup hm⟩
  obtain ⟨s, h1, h2⟩ := h.range _ _ _ h0
  exact ⟨s, h1, h2, (h.taken s).2 ⟨_, _, _, h0, h1⟩⟩

/-! ### Commit -/
def commitO (O : Ov) : Ov := { O with B := giveB O.B (slotsL O.was), base := applyM O.base O.fresh [], was := [], fresh := [] }
theorem commit_base {O : Ov} {t : Int} (h : OvOk O t) (x : Ky) : findM (commitO O).base x = (findM O.fresh x).or (findM O.base x) := by
  show findM (applyM O.base O.fresh []) x = _
  rw [find_apply h.rf.nodup]
  by_cases hx : x ∈ O.fresh.map Md.k
  · obtain ⟨e, he⟩ := find_in hx
    rw [if_pos hx, he]
    rfl
  · rw [if_neg hx, find_out.2 hx]
    simp
theorem commit_has {O : Ov} {t : Int} (h : OvOk O t) {c : Nat} {x : Ky} {e : Ent} (h1 : (commitO O).Has c x e) : c = 0 ∧ ∃ c0, (c0 = 0 ∨ c0 = 2) ∧ O.Has c0 x e := by
  obtain ⟨hc, h1⟩ := h1
  match c, hc, h1 with
  | 0, hc, h1 =>
    have h' : findM (commitO O).base x = some e := h1
    rw [commit_base h] at h'
    cases hf : findM O.fresh x with
    | none =>
      rw [hf] at h'
      exact ⟨rfl, 0, .inl rfl, ⟨hc, h'⟩⟩
    | some e0 =>
      rw [hf] at h'
      simp only [Option.some_or, Option.some.injEq] at h'
      subst h'
      exact ⟨rfl, 2, .inr rfl, ⟨by decide, hf⟩⟩
  | 1, hc, h1 => cases (show findM ([] : List Md) x = some e from h1)
  | 2, hc, h1 => cases (show findM ([] : List Md) x = some e from h1)
  | c + 3, hc, h1 => omega
theorem has_commit {O : Ov} {t : Int} (h : OvOk O t) {c : Nat} {x : Ky} {e : Ent} (h1 : O.Has c x e) (hc1 : c ≠ 1) : (commitO O).Has 0 x e := by
  obtain ⟨hc, h1⟩ := h1
  refine ⟨by decide, ?_⟩
  show findM (commitO O).base x = _
  rw [commit_base h]
  match c, hc, h1, hc1 with
  | 0, hc, h1, _ =>
    have h' : findM O.base x = some e := h1
    rw [(h.apart x e h').2, h']
    rfl
  | 1, hc, h1, hc1 => exact absurd rfl hc1
  | 2, hc, h1, _ =>
    have h' : findM O.fresh x = some e := h1
    rw [h']
    rfl
  | c + 3, hc, h1, _ => omega
theorem commit_ok12 {O : Ov} {t : Int} (h : OvOk O t) : OvOk (commitO O) t where
  n1 := h.n1
  n2 := h.n2
  rb := rise_apply _ _ _
  rw := Rise.nil
  rf := Rise.nil
  tail := fun i hi => by
    show giveB O.B _ i = false
    unfold giveB
    rw [h.tail i hi]
    rfl
  one := by
    intro c x e c' x' e2 h1 h2 he
    obtain ⟨rfl, c0, _, g1⟩ := commit_has h h1
    obtain ⟨rfl, c1, _, g2⟩ := commit_has h h2
    exact ⟨rfl, (h.one _ _ _ _ _ _ g1 g2 he).2⟩
  taken := by
    intro i
    show giveB O.B (slotsL O.was) i = true ↔ _
    unfold giveB
    rw [Bool.and_eq_true, h.taken]
    constructor
    · rintro ⟨⟨c, x, e, h1, h2⟩, h3⟩
      refine ⟨0, x, e, has_commit h h1 ?_, h2⟩
      rintro rfl
      have hm := find_mem h1.2
      have : (i : Int) ∈ slotsL O.was := slots_mem.2 ⟨_, hm, h2⟩
      simp [this] at h3
    · rintro ⟨c, x, e, h1, h2⟩
      obtain ⟨rfl, c0, hc0, g1⟩ := commit_has h h1
      refine ⟨⟨c0, x, e, g1, h2⟩, ?_⟩
      have : (i : Int) ∉ slotsL O.was := fun hm => by
        obtain ⟨m, hm1, hm2⟩ := slots_mem.1 hm
        have q := (h.one c0 x e 1 m.k (m.s, m.g, m.u) g1 ⟨by decide, mem_find h.rw.nodup hm1⟩ (h2.trans hm2.symm)).1
        omega
      simp [this]
  range := by
    intro c x e h1
    obtain ⟨_, c0, _, g1⟩ := commit_has h h1
    exact h.range _ _ _ g1
  apart := fun x e _ => ⟨rfl, rfl⟩
  fit := by
    intro c x e h1
    obtain ⟨_, c0, _, g1⟩ := commit_has h h1
    exact h.fit _ _ _ g1
def getO12 (O : Ov) (k : Ky) : Option Ent := (findM O.fresh k).or (findM O.base k)
def goneL (O : Ov) : List Ky := (O.was.map Md.k).filter fun k => !(findM O.fresh k).isSome
end Go.Proofs.YtjhkcdnfnmglhaaDoor

/- Pages of an overlay: maps from keys to entries that hold a list by rising keys. -/
namespace Go.Proofs.YtjhkcdnfnmglhaaDoor
open Go.RowKit Go.Maps Go.WideElems Go.MapKept Go.ChangeMaps
set_option linter.unusedVariables false
set_option maxRecDepth 20000

/-! ### How long the lists are -/
theorem len_same {a b : List Ky} (ha : a.Nodup) (hb : b.Nodup) (h : ∀ x, x ∈ a ↔ x ∈ b) : a.length = b.length :=
  ((List.perm_ext_iff_of_nodup ha hb).2 h).length_eq
theorem key_in {l : List Md} {x : Ky} : x ∈ l.map Md.k ↔ (findM l x).isSome = true := by
  rw [isSome_find, decide_eq_true_iff]
theorem len_put {l : List Md} (hl : Rise l) (k : Ky) (e : Ent) : (putL l k e).length = if (findM l k).isSome = true then l.length else l.length + 1 := by
  have h1 : ∀ x, x ∈ (putL l k e).map Md.k ↔ x = k ∨ x ∈ l.map Md.k := fun x => by
    rw [key_in, key_in, find_put]
    by_cases q : x = k
    · simp [q]
    · simp [q]
  have hn := (rise_put l k e).nodup
  split
  · rename_i hs
    have := len_same hn hl.nodup fun x => by
      rw [h1]
      exact ⟨fun h => h.elim (fun q => by rw [q]; exact key_in.2 hs) id, .inr⟩
    simpa using this
  · rename_i hs
    have h2 : (k :: l.map Md.k).Nodup := List.nodup_cons.2 ⟨fun h => hs (key_in.1 h), hl.nodup⟩
    have := len_same hn h2 fun x => by rw [h1, List.mem_cons]
    simpa using this
theorem len_cut {l : List Md} (hl : Rise l) (k : Ky) : (cutL l k).length + (if (findM l k).isSome = true then 1 else 0) = l.length := by
  have h1 : ∀ x, x ∈ (cutL l k).map Md.k ↔ x ≠ k ∧ x ∈ l.map Md.k := fun x => by
    rw [key_in, key_in, find_cut]
    by_cases q : x = k
    · simp [q]
    · simp [q]
  have hn := (rise_cut l k).nodup
  split
  · rename_i hs
    have h2 : (k :: (cutL l k).map Md.k).Nodup := List.nodup_cons.2 ⟨fun h => ((h1 k).1 h).1 rfl, hn⟩
    have := len_same h2 hl.nodup fun x => by
      rw [List.mem_cons, h1]
      refine ⟨fun h => h.elim (fun q => by rw [q]; exact key_in.2 hs) (·.2), fun h => ?_⟩
      by_cases q : x = k
      · exact .inl q
      · exact .inr ⟨q, h⟩
    simpa using this
  · rename_i hs
    have := len_same hn hl.nodup fun x => by
      rw [h1]
      exact ⟨(·.2), fun h => ⟨fun q => hs (key_in.1 (q ▸ h)), h⟩⟩
    simpa using this

/-! ### A map that holds a list -/
structure EntL (D : Dw) (l : List Md) : Prop where
  rise : Rise l
  fit : ∀ k ∈ l.map Md.k, KI k
  isMap : IsMap D
  has : ∀ k, KI k → Maps.has D (klit k) = (findM l k).isSome
  val : ∀ k e, KI k → findM l k = some e → ∀ z, D.atKey (klit k) z = edat e
  size : Maps.size D = l.length
theorem EntL.nil : EntL (.map []) [] := ⟨Rise.nil, by simp, isMap_empty, fun k _ => rfl, fun k e _ h => (by cases h), rfl⟩
theorem EntL.none {D : Dw} {l : List Md} (h : EntL D l) (k : Ky) (hk : KI k) (hf : findM l k = Option.none) (z : Dw) : D.atKey (klit k) z = z := atKey_of_not_has (by rw [h.has k hk, hf]; rfl) z
theorem EntL.put {D : Dw} {l : List Md} (h : EntL D l) (ht : Tidy D) {k : Ky} (hk : KI k) (e : Ent) : EntL (D.put (klit k) (edat e)) (putL l k e) := by
  refine ⟨rise_put _ _ _, fun x hx => ?_, h.isMap.put _ _, fun x hx => ?_, fun x e' hx hf z => ?_, ?_⟩
  · rw [key_in, find_put] at hx
    by_cases q : x = k
    · rw [q]; exact hk
    · rw [if_neg q] at hx
      exact h.fit x (key_in.2 hx)
  · rw [find_put]
    by_cases q : x = k
    · subst q
      rw [has_put_same h.isMap (klit_key x)]
      simp
    · rw [has_put_other (fun e' => q (klit_inj hx hk e')), h.has x hx, if_neg q]
  · rw [find_put] at hf
    by_cases q : x = k
    · subst q
      rw [if_pos rfl, Option.some.injEq] at hf
      rw [atKey_put_same h.isMap (klit_key x), hf]
    · rw [if_neg q] at hf
      rw [atKey_put_other (fun e' => q (klit_inj hx hk e')), h.val x e' hx hf]
  · rw [size_put ht, h.has k hk, h.size, len_put h.rise]
theorem EntL.del {D : Dw} {l : List Md} (h : EntL D l) (ht : Tidy D) {k : Ky} (hk : KI k) : EntL (D.del (klit k)) (cutL l k) := by
  refine ⟨rise_cut _ _, fun x hx => ?_, h.isMap.del _, fun x hx => ?_, fun x e' hx hf z => ?_, ?_⟩
  · rw [key_in, find_cut] at hx
    by_cases q : x = k
    · rw [if_pos q] at hx; cases hx
    · rw [if_neg q] at hx
      exact h.fit x (key_in.2 hx)
  · rw [find_cut]
    by_cases q : x = k
    · subst q
      rw [has_del_same]
      simp
    · rw [has_del_other (fun e' => q (klit_inj hx hk e')), h.has x hx, if_neg q]
  · rw [find_cut] at hf
    by_cases q : x = k
    · rw [if_pos q] at hf; cases hf
    · rw [if_neg q] at hf
      rw [atKey_del_other (fun e' => q (klit_inj hx hk e')), h.val x e' hx hf]
  · have h1 := size_del (k := klit k) ht
    have h2 := len_cut h.rise k
    rw [h.has k hk, h.size] at h1
    omega
/-- The map at block b holds the list l. -/
def MapL (w : World) (b : Nat) (l : List Md) : Prop := ∃ D : Dw, w.ownsMap Tryd.prog 29 entR b l.length D ∧ EntL D l
theorem owns_len {w : World} {b n : Nat} {l : List Md} {D : Dw} (h : w.ownsMap Tryd.prog 29 entR b n D) (he : EntL D l) : w.ownsMap Tryd.prog 29 entR b l.length D := by
  obtain ⟨es, clock, hb, F, hs, rfl⟩ := h
  refine ⟨es, clock, hb, F, ?_, rfl⟩
  have e1 : Maps.size (DataW.map ((es.toList.map (rg Tryd.prog 29 entR)).foldr DataW.insert [])) = es.size := by simp [Maps.size, length_sorted]
  rw [← he.size, e1]
  exact Nat.le_refl _
theorem MapL.made (w : World) : MapL (w.alloc (.map #[] 0)) w.heap.size [] := ⟨_, World.ownsMap_made _ _ _ _, EntL.nil⟩
theorem MapL.rise {w : World} {b : Nat} {l : List Md} (h : MapL w b l) : Rise l := by obtain ⟨D, _, h2⟩ := h; exact h2.rise
theorem MapL.fit {w : World} {b : Nat} {l : List Md} (h : MapL w b l) : ∀ k ∈ l.map Md.k, KI k := by obtain ⟨D, _, h2⟩ := h; exact h2.fit
theorem MapL.lt {w : World} {b : Nat} {l : List Md} (h : MapL w b l) : b < w.heap.size := by obtain ⟨D, h1, _⟩ := h; exact h1.lt
theorem MapL.map {w : World} {b : Nat} {l : List Md} (h : MapL w b l) : ∃ es clock, w.heap[b]? = some (.map es clock) := by obtain ⟨D, ⟨es, clock, hb, _⟩, _⟩ := h; exact ⟨es, clock, hb⟩
theorem MapL.same {w w' : World} {b : Nat} {l : List Md} (h : MapL w b l) (hh : w'.heap[b]? = w.heap[b]?) : MapL w' b l := by
  obtain ⟨D, ⟨es, clock, hb, r⟩, h2⟩ := h
  exact ⟨D, ⟨es, clock, hh.trans hb, r⟩, h2⟩
theorem MapL.grown {w w' : World} {b : Nat} {l : List Md} {row : Option Nat} (h : MapL w b l) (hg : w.grownBy w' row) (hne : some b ≠ row) : MapL w' b l := h.same (hg.block b h.lt hne)
theorem MapL.kept {w w' : World} {b : Nat} {l : List Md} (h : MapL w b l) (hb : Below w.heap.size w w') : MapL w' b l := h.same (hb.block b h.lt)
theorem MapL.drew {w : World} {b : Nat} {l : List Md} (h : MapL w b l) : MapL w.drew b l := h.same rfl
/-- 'e, ok := m[k]'. -/
theorem MapL.look {w : World} {b : Nat} {l : List Md} (h : MapL w b l) {k : Ky} (hk : KI k) :
    (Instr.lookup 52 (.map (some b)) (.agg #[.int .i64 k.1, .int .i64 k.2]) true).run Tryd.prog w = .ok (.tuple #[entV (findM l k), .bool (findM l k).isSome]) w := by
  obtain ⟨D, h1, h2⟩ := h
  obtain ⟨v, ps, hr, hv⟩ := h1.look_ok lawK Tryd.underlying52 (zeroEn w) (entR_mk _) (keyOf_k hk)
  rw [h2.has k hk] at hr
  rw [hr]
  cases hf : findM l k with
  | none =>
    rw [h2.none k hk hf] at hv
    obtain ⟨e, rfl, he⟩ := entR_inv hv
    have := edat_inj (congrArg Prod.fst he)
    subst this
    rfl
  | some e0 =>
    rw [h2.val k e0 hk hf] at hv
    obtain ⟨e, rfl, he⟩ := entR_inv hv
    have := edat_inj (congrArg Prod.fst he)
    subst this
    rfl
/-- 'm[k]'. -/
theorem MapL.look1 {w : World} {b : Nat} {l : List Md} (h : MapL w b l) {k : Ky} (hk : KI k) :
    (Instr.lookup 52 (.map (some b)) (.agg #[.int .i64 k.1, .int .i64 k.2]) false).run Tryd.prog w = .ok (entV (findM l k)) w := by
  obtain ⟨D, h1, h2⟩ := h
  obtain ⟨v, ps, hr, hv⟩ := h1.lookup lawK Tryd.underlying52 (zeroEn w) (entR_mk _) (keyOf_k hk)
  rw [hr]
  cases hf : findM l k with
  | none =>
    rw [h2.none k hk hf] at hv
    obtain ⟨e, rfl, he⟩ := entR_inv hv
    have := edat_inj (congrArg Prod.fst he)
    subst this
    rfl
  | some e0 =>
    rw [h2.val k e0 hk hf] at hv
    obtain ⟨e, rfl, he⟩ := entR_inv hv
    have := edat_inj (congrArg Prod.fst he)
    subst this
    rfl
/-- 'm[k] = e'. -/
theorem MapL.put {w : World} {b : Nat} {l : List Md} (h : MapL w b l) (hn : l.length < 100000) {k : Ky} (hk : KI k) (e : Ent) :
    ∃ w', (Instr.mapUpdate 52 (.map (some b)) (.agg #[.int .i64 k.1, .int .i64 k.2]) (evalE e)).run Tryd.prog w = .ok () w' ∧ MapL w' b (putL l k e) ∧ w.grownBy w' (some b) := by
  obtain ⟨D, h1, h2⟩ := h
  obtain ⟨w', hr, ho, hg⟩ := h1.update lawK Tryd.underlying52 (by unfold maxLen; omega) (keyOf_k hk) (entR_mk e)
  have h3 := h2.put (h1.tidy lawK) hk e
  exact ⟨w', hr, ⟨_, owns_len ho h3, h3⟩, hg⟩
/-- 'delete(m, k)'. -/
theorem MapL.del {w : World} {b : Nat} {l : List Md} (h : MapL w b l) {k : Ky} (hk : KI k) (ty : TypeId) :
    ∃ w', (Builtin.delete_ #[52, 29] ty #[.map (some b), .agg #[.int .i64 k.1, .int .i64 k.2]]).run Tryd.prog w = .ok (.tuple #[]) w' ∧ MapL w' b (cutL l k) ∧ w.grownBy w' (some b) := by
  obtain ⟨D, h1, h2⟩ := h
  obtain ⟨w', hr, ho, hg⟩ := h1.drop lawK Tryd.underlying52 (keyOf_k hk) ty
  have h3 := h2.del (h1.tidy lawK) hk
  exact ⟨w', hr, ⟨_, owns_len ho h3, h3⟩, hg.grown⟩
/-- 'clear(m)'. -/
theorem MapL.clear {w : World} {b : Nat} {l : List Md} (h : MapL w b l) (ty : TypeId) :
    ∃ w', (Builtin.clear_ #[52] ty #[.map (some b)]).run Tryd.prog w = .ok (.tuple #[]) w' ∧ MapL w' b [] ∧ w.grownBy w' (some b) := by
  obtain ⟨D, ⟨es, clock, hb, F, hs, hD⟩, h2⟩ := h
  refine ⟨setBlock w b (.map #[] clock), ?_, ⟨_, ⟨#[], clock, heap_setBlock_same hb _, ⟨by simp, stamped_empty clock, by simp⟩, Nat.le_refl _, rfl⟩, EntL.nil⟩, ?_⟩
  · simp [Builtin.clear_, run_underlying Tryd.underlying52, MapKept.run_getObj_map hb, MapKept.run_setObj_map _ hb, Result.andThen]
    rfl
  · exact (show w.mapTurned (setBlock w b (.map #[] clock)) b from ⟨es, clock, #[], clock, hb, rfl⟩).grown

/-! ### What a range has met -/
structure MetL (l : List Md) (left : Lit → Bool) (ss : List Md) : Prop where
  nodup : (ss.map Md.k).Nodup
  mem : ∀ k, KI k → (k ∈ ss.map Md.k ↔ k ∈ l.map Md.k ∧ left (klit k) = false)
  find : ∀ m ∈ ss, findM l m.k = some (m.s, m.g, m.u)
  fit : ∀ k ∈ ss.map Md.k, KI k
theorem MetL.start {D : Dw} {l : List Md} (h : EntL D l) : MetL l (Maps.has D) [] where
  nodup := List.nodup_nil
  mem := fun k hk => by
    rw [h.has k hk, key_in (l := l)]
    constructor
    · intro h'; cases h'
    · rintro ⟨a, b⟩
      rw [a] at b
      cases b
  find := by simp
  fit := by simp
theorem MetL.step {D : Dw} {l : List Md} {left : Lit → Bool} {ss : List Md} (h : MetL l left ss) {x : Ky} {e : Ent} (hx : KI x) (hl : left (klit x) = true) (hf : findM l x = some e) : MetL l (fun z => left z && !z.sameKey (klit x)) (ss ++ [md x e]) := by
  have hno : x ∉ ss.map Md.k := fun h' => by have := ((h.mem x hx).1 h').2; rw [hl] at this; cases this
  refine ⟨?_, fun k hk => ?_, fun m hm => ?_, fun k hk => ?_⟩
  · rw [List.map_append, List.nodup_append]
    exact ⟨h.nodup, by simp, fun a ha b hb => by rw [List.map_singleton, List.mem_singleton] at hb; rw [hb, md_k]; exact fun e => hno (e ▸ ha)⟩
  · rw [List.map_append, List.mem_append, List.map_singleton, List.mem_singleton, md_k, h.mem k hk, klit_same hk hx]
    by_cases q : k = x
    · subst q
      simp only [or_true, decide_true, Bool.not_true, Bool.and_false, and_true, true_iff]
      exact key_in.2 (by rw [hf]; rfl)
    · simp [q]
  · rw [List.mem_append, List.mem_singleton] at hm
    rcases hm with hm | rfl
    · exact h.find m hm
    · exact hf
  · rw [List.map_append, List.mem_append, List.map_singleton, List.mem_singleton, md_k] at hk
    exact hk.elim (h.fit k) (fun e => e ▸ hx)
/-- All of them, in some order. -/
theorem MetL.all {l : List Md} {left : Lit → Bool} {ss : List Md} (h : MetL l left ss) (hk : ∀ k ∈ l.map Md.k, KI k) (hr : Rise l) (hl : ∀ z, left z = false) : ss.Perm l := by
  have hn1 : ss.Nodup := List.Pairwise.of_map Md.k (fun a b hne e => hne (by rw [e])) h.nodup
  have hn2 : l.Nodup := List.Pairwise.of_map Md.k (fun a b hne e => hne (by rw [e])) hr.nodup
  refine (List.perm_ext_iff_of_nodup hn1 hn2).2 fun m => ⟨fun hm => ?_, fun hm => ?_⟩
  · have := find_mem (h.find m hm)
    rwa [md_self] at this
  · have hkm : m.k ∈ l.map Md.k := List.mem_map.2 ⟨m, hm, rfl⟩
    have h1 := (h.mem m.k (hk _ hkm)).2 ⟨hkm, hl _⟩
    obtain ⟨m', hm', e⟩ := List.mem_map.1 h1
    have h2 := h.find m' hm'
    rw [e, mem_find hr.nodup hm] at h2
    simp only [Option.some.injEq, Prod.mk.injEq] at h2
    obtain ⟨a, b, c⟩ := h2
    have : m' = m := by
      obtain ⟨q1, q2, q3, q4, q5⟩ := m
      obtain ⟨r1, r2, r3, r4, r5⟩ := m'
      simp only [Md.k, Prod.mk.injEq] at e a b c
      obtain ⟨e1, e2⟩ := e
      subst e1 e2 a b c
      rfl
    rwa [this] at hm'
theorem EntL.at_ {D : Dw} {l : List Md} (h : EntL D l) {x : Ky} {e : Ent} (hx : KI x) (hat : ∀ zd, D.atKey (klit x) zd = edat e) : findM l x = some e := by
  have h1 := Maps.has_true_of_atKey hat
  rw [h.has x hx] at h1
  cases hf : findM l x with
  | none => rw [hf] at h1; cases h1
  | some e0 =>
    have h2 := h.val x e0 hx hf (.lit (.bool true))
    rw [hat] at h2
    rw [edat_inj h2]
end Go.Proofs.YtjhkcdnfnmglhaaDoor

/- A contract of the library laid at this dump, in plain words. -/
namespace Go.Proofs.YtjhkcdnfnmglhaaDoor
open Go.Shelf Go.Proofs
def Tryd.sortI_ren : Go.Shelf.Ren := ⟨fun | 5 => 27 | 8 => 40 | 7 => 39 | 19 => 55 | 20 => 56 | 10 => 46 | 11 => 47 | 12 => 48 | 13 => 49 | 14 => 50 | 15 => 51 | 16 => 52 | 17 => 53 | 18 => 54 | 30 => 68 | 31 => 69 | 32 => 70 | 33 => 71 | 34 => 72 | 35 => 44 | 40 => 78 | n => n, fun | 23 => 39 | 25 => 3 | 3 => 3 | 32 => 80 | 22 => 39 | 0 => 0 | 44 => 30 | 46 => 86 | 4 => 4 | 36 => 92 | 35 => 91 | 41 => 97 | 5 => 5 | 9 => 9 | 53 => 106 | 57 => 110 | 63 => 114 | 64 => 115 | n => n, fun | n => n⟩
theorem Tryd.sortI : Go.Proofs.SlLaysM.n5 Tryd.prog Tryd.sortI_ren := {
  mixed := by kernel_rfl
  f5 := ⟨Tryd.f27.name, by decide, Tryd.func27.trans (congrArg some (by kernel_rfl))⟩
  f7 := ⟨Tryd.f39.name, by decide, Tryd.func39.trans (congrArg some (by kernel_rfl))⟩
  f8 := Tryd.func40.trans (congrArg some (by kernel_rfl))
  f10 := ⟨Tryd.f46.name, by decide, Tryd.func46.trans (congrArg some (by kernel_rfl))⟩
  f11 := ⟨Tryd.f47.name, by decide, Tryd.func47.trans (congrArg some (by kernel_rfl))⟩
  f12 := ⟨Tryd.f48.name, by decide, Tryd.func48.trans (congrArg some (by kernel_rfl))⟩
  f13 := ⟨Tryd.f49.name, by decide, Tryd.func49.trans (congrArg some (by kernel_rfl))⟩
  f14 := ⟨Tryd.f50.name, by decide, Tryd.func50.trans (congrArg some (by kernel_rfl))⟩
  f15 := ⟨Tryd.f51.name, by decide, Tryd.func51.trans (congrArg some (by kernel_rfl))⟩
  f16 := ⟨Tryd.f52.name, by decide, Tryd.func52.trans (congrArg some (by kernel_rfl))⟩
  f17 := ⟨Tryd.f53.name, by decide, Tryd.func53.trans (congrArg some (by kernel_rfl))⟩
  f18 := ⟨Tryd.f54.name, by decide, Tryd.func54.trans (congrArg some (by kernel_rfl))⟩
  f19 := Tryd.func55.trans (congrArg some (by kernel_rfl))
  f20 := Tryd.func56.trans (congrArg some (by kernel_rfl))
  f30 := ⟨Tryd.f68.name, by decide, Tryd.func68.trans (congrArg some (by kernel_rfl))⟩
  f31 := Tryd.func69.trans (congrArg some (by kernel_rfl))
  f32 := Tryd.func70.trans (congrArg some (by kernel_rfl))
  f33 := ⟨Tryd.f71.name, by decide, Tryd.func71.trans (congrArg some (by kernel_rfl))⟩
  f34 := ⟨Tryd.f72.name, by decide, Tryd.func72.trans (congrArg some (by kernel_rfl))⟩
  f35 := ⟨Tryd.f44.name, by decide, Tryd.func44.trans (congrArg some (by kernel_rfl))⟩
  f40 := ⟨Tryd.f78.name, by decide, Tryd.func78.trans (congrArg some (by kernel_rfl))⟩
  t0 := Tryd.underlying0
  a0 := Tryd.isAgg0
  z0 := Tryd.sizeOf0
  v0 := Tryd.zeroValue0
  t3 := Tryd.underlying3
  a3 := Tryd.isAgg3
  z3 := Tryd.sizeOf3
  v3 := Tryd.zeroValue3
  t4 := Tryd.underlying4
  a4 := Tryd.isAgg4
  z4 := Tryd.sizeOf4
  v4 := Tryd.zeroValue4
  t5 := Tryd.underlying5
  a5 := Tryd.isAgg5
  z5 := Tryd.sizeOf5
  v5 := Tryd.zeroValue5
  t9 := Tryd.underlying9
  a9 := Tryd.isAgg9
  z9 := Tryd.sizeOf9
  v9 := Tryd.zeroValue9
  t22 := Tryd.underlying39
  a22 := Tryd.isAgg39
  z22 := Tryd.sizeOf39
  v22 := Tryd.zeroValue39
  t23 := Tryd.underlying39
  a23 := Tryd.isAgg39
  z23 := Tryd.sizeOf39
  v23 := Tryd.zeroValue39
  t25 := Tryd.underlying3
  a25 := Tryd.isAgg3
  z25 := Tryd.sizeOf3
  v25 := Tryd.zeroValue3
  t32 := Tryd.underlying80
  a32 := Tryd.isAgg80
  z32 := Tryd.sizeOf80
  v32 := Tryd.zeroValue80
  t35 := Tryd.underlying91
  a35 := Tryd.isAgg91
  z35 := Tryd.sizeOf91
  v35 := Tryd.zeroValue91
  t36 := Tryd.underlying92
  a36 := Tryd.isAgg92
  z36 := Tryd.sizeOf92
  v36 := Tryd.zeroValue92
  t41 := Tryd.underlying97
  a41 := Tryd.isAgg97
  z41 := Tryd.sizeOf97
  v41 := Tryd.zeroValue97
  t44 := Tryd.underlying30
  a44 := Tryd.isAgg30
  z44 := Tryd.sizeOf30
  v44 := Tryd.zeroValue30
  t46 := Tryd.underlying86
  a46 := Tryd.isAgg86
  z46 := Tryd.sizeOf86
  v46 := Tryd.zeroValue86
  t53 := Tryd.underlying106
  a53 := Tryd.isAgg106
  z53 := Tryd.sizeOf106
  v53 := Tryd.zeroValue106
  t57 := Tryd.underlying110
  a57 := Tryd.isAgg110
  z57 := Tryd.sizeOf110
  v57 := Tryd.zeroValue110
  t63 := Tryd.underlying114
  a63 := Tryd.isAgg114
  z63 := Tryd.sizeOf114
  v63 := Tryd.zeroValue114
  t64 := Tryd.underlying115
  a64 := Tryd.isAgg115
  z64 := Tryd.sizeOf115
  v64 := Tryd.zeroValue115 }
end Go.Proofs.YtjhkcdnfnmglhaaDoor

/- A contract of the library laid at this dump, in plain words. -/
namespace Go.Proofs.YtjhkcdnfnmglhaaDoor
open Go.Shelf Go.Proofs
def Tryd.sortM_ren : Go.Shelf.Ren := ⟨fun | 6 => 34 | 15 => 40 | 14 => 43 | 28 => 55 | 29 => 56 | 20 => 57 | 21 => 58 | 22 => 59 | 23 => 60 | 24 => 61 | 25 => 62 | 26 => 63 | 27 => 64 | 46 => 73 | 47 => 69 | 48 => 70 | 49 => 74 | 50 => 75 | 57 => 79 | n => n, fun | 22 => 44 | 24 => 47 | 25 => 79 | 3 => 3 | 39 => 80 | 0 => 0 | 53 => 30 | 55 => 86 | 4 => 4 | 46 => 92 | 45 => 91 | 50 => 97 | 5 => 5 | 9 => 9 | 66 => 106 | 70 => 110 | 76 => 114 | 77 => 115 | n => n, fun | n => n⟩
theorem Tryd.sortM : Go.Proofs.SlLaysF0.n6 Tryd.prog Tryd.sortM_ren := {
  mixed := by kernel_rfl
  f6 := ⟨Tryd.f34.name, by decide, Tryd.func34.trans (congrArg some (by kernel_rfl))⟩
  f14 := ⟨Tryd.f43.name, by decide, Tryd.func43.trans (congrArg some (by kernel_rfl))⟩
  f15 := Tryd.func40.trans (congrArg some (by kernel_rfl))
  f20 := ⟨Tryd.f57.name, by decide, Tryd.func57.trans (congrArg some (by kernel_rfl))⟩
  f21 := ⟨Tryd.f58.name, by decide, Tryd.func58.trans (congrArg some (by kernel_rfl))⟩
  f22 := ⟨Tryd.f59.name, by decide, Tryd.func59.trans (congrArg some (by kernel_rfl))⟩
  f23 := ⟨Tryd.f60.name, by decide, Tryd.func60.trans (congrArg some (by kernel_rfl))⟩
  f24 := ⟨Tryd.f61.name, by decide, Tryd.func61.trans (congrArg some (by kernel_rfl))⟩
  f25 := ⟨Tryd.f62.name, by decide, Tryd.func62.trans (congrArg some (by kernel_rfl))⟩
  f26 := ⟨Tryd.f63.name, by decide, Tryd.func63.trans (congrArg some (by kernel_rfl))⟩
  f27 := ⟨Tryd.f64.name, by decide, Tryd.func64.trans (congrArg some (by kernel_rfl))⟩
  f28 := Tryd.func55.trans (congrArg some (by kernel_rfl))
  f29 := Tryd.func56.trans (congrArg some (by kernel_rfl))
  f46 := ⟨Tryd.f73.name, by decide, Tryd.func73.trans (congrArg some (by kernel_rfl))⟩
  f47 := Tryd.func69.trans (congrArg some (by kernel_rfl))
  f48 := Tryd.func70.trans (congrArg some (by kernel_rfl))
  f49 := ⟨Tryd.f74.name, by decide, Tryd.func74.trans (congrArg some (by kernel_rfl))⟩
  f50 := ⟨Tryd.f75.name, by decide, Tryd.func75.trans (congrArg some (by kernel_rfl))⟩
  f57 := ⟨Tryd.f79.name, by decide, Tryd.func79.trans (congrArg some (by kernel_rfl))⟩
  t0 := Tryd.underlying0
  a0 := Tryd.isAgg0
  z0 := Tryd.sizeOf0
  v0 := Tryd.zeroValue0
  t3 := Tryd.underlying3
  a3 := Tryd.isAgg3
  z3 := Tryd.sizeOf3
  v3 := Tryd.zeroValue3
  t4 := Tryd.underlying4
  a4 := Tryd.isAgg4
  z4 := Tryd.sizeOf4
  v4 := Tryd.zeroValue4
  t5 := Tryd.underlying5
  a5 := Tryd.isAgg5
  z5 := Tryd.sizeOf5
  v5 := Tryd.zeroValue5
  t9 := Tryd.underlying9
  a9 := Tryd.isAgg9
  z9 := Tryd.sizeOf9
  v9 := Tryd.zeroValue9
  t22 := Tryd.underlying44
  a22 := Tryd.isAgg44
  z22 := Tryd.sizeOf44
  v22 := Tryd.zeroValue44
  t25 := Tryd.underlying79
  a25 := Tryd.isAgg79
  z25 := Tryd.sizeOf79
  v25 := Tryd.zeroValue79
  t39 := Tryd.underlying80
  a39 := Tryd.isAgg80
  z39 := Tryd.sizeOf80
  v39 := Tryd.zeroValue80
  t45 := Tryd.underlying91
  a45 := Tryd.isAgg91
  z45 := Tryd.sizeOf91
  v45 := Tryd.zeroValue91
  t46 := Tryd.underlying92
  a46 := Tryd.isAgg92
  z46 := Tryd.sizeOf92
  v46 := Tryd.zeroValue92
  t50 := Tryd.underlying97
  a50 := Tryd.isAgg97
  z50 := Tryd.sizeOf97
  v50 := Tryd.zeroValue97
  t53 := Tryd.underlying30
  a53 := Tryd.isAgg30
  z53 := Tryd.sizeOf30
  v53 := Tryd.zeroValue30
  t55 := Tryd.underlying86
  a55 := Tryd.isAgg86
  z55 := Tryd.sizeOf86
  v55 := Tryd.zeroValue86
  t66 := Tryd.underlying106
  a66 := Tryd.isAgg106
  z66 := Tryd.sizeOf106
  v66 := Tryd.zeroValue106
  t70 := Tryd.underlying110
  a70 := Tryd.isAgg110
  z70 := Tryd.sizeOf110
  v70 := Tryd.zeroValue110
  t76 := Tryd.underlying114
  a76 := Tryd.isAgg114
  z76 := Tryd.sizeOf114
  v76 := Tryd.zeroValue114
  t77 := Tryd.underlying115
  a77 := Tryd.isAgg115
  z77 := Tryd.sizeOf115
  v77 := Tryd.zeroValue115 }
end Go.Proofs.YtjhkcdnfnmglhaaDoor

/- Rows that the call owns, sorted: of ints, of mapped pages by their keys' numbers. -/
namespace Go.Proofs.YtjhkcdnfnmglhaaDoor
open Go.RowKit Go.Shelf Go.Lib Go.Sort
set_option linter.unusedVariables false
set_option maxRecDepth 20000

/-! ### Ints -/
theorem insI_sorted {out : List Int} {z : Int} (h : out.Pairwise (· ≤ ·)) : (insI out z).Pairwise (· ≤ ·) := by
  induction out with
  | nil => simp [insI]
  | cons x r ih =>
    have hx := (List.pairwise_cons.1 h).1
    have hr := (List.pairwise_cons.1 h).2
    by_cases q : x < z
    · have e : insI (x :: r) z = x :: insI r z := by simp [insI, q]
      rw [e, List.pairwise_cons]
      refine ⟨fun y hy => ?_, ih hr⟩
      rcases insI_mem.1 hy with rfl | hy
      · omega
      · exact hx y hy
    · have e : insI (x :: r) z = z :: x :: r := by simp [insI, q]
      rw [e, List.pairwise_cons]
      refine ⟨fun y hy => ?_, h⟩
      rcases List.mem_cons.1 hy with rfl | hy
      · omega
      · have := hx y hy
        omega
theorem insI_perm (out : List Int) (z : Int) : (insI out z).Perm (z :: out) := by
  unfold insI
  refine (List.perm_middle).trans ?_
  rw [List.takeWhile_append_dropWhile]
theorem slots_perm : ∀ (l : List Md) (out : List Int), (l.foldl (fun out m => insI out m.s) out).Perm (l.map Md.s ++ out)
  | [], out => .refl _
  | m :: r, out => by
    rw [List.foldl_cons]
    refine (slots_perm r (insI out m.s)).trans ?_
    rw [List.map_cons, List.cons_append]
    exact ((insI_perm out m.s).append_left _).trans List.perm_middle
theorem slots_rising : ∀ (l : List Md) (out : List Int), out.Pairwise (· ≤ ·) → (l.foldl (fun out m => insI out m.s) out).Pairwise (· ≤ ·)
  | [], _, h => h
  | m :: r, out, h => slots_rising r _ (insI_sorted h)
theorem merge_slots {zs : List Int} {l : List Md} (h : zs.Perm (l.map Md.s)) : (zs.mergeSort fun x y => decide (x ≤ y)) = slotsL l := by
  refine List.Perm.eq_of_pairwise (le := fun x y => x ≤ y) (fun a b _ _ h1 h2 => Int.le_antisymm h1 h2) ?_ (slots_rising l [] List.Pairwise.nil) ?_
  · have := List.pairwise_mergeSort (le := fun x y : Int => decide (x ≤ y)) (fun a b c h1 h2 => by simp only [decide_eq_true_eq] at *; omega) (fun a b => by simp only [Bool.or_eq_true, decide_eq_true_eq]; omega) zs
    exact this.imp fun {a b} h => by simpa using h
  · refine (List.mergeSort_perm zs _).trans (h.trans ?_)
    have := slots_perm l []
    rw [List.append_nil] at this
    exact this.symm
theorem sortNums_any (w : World) (base : Nat) (e : TypeId) (v : Value) (zs ts : List Int) (hO : w.ownsRow base e 1 v zs.length (nums zs)) (hz : ∀ z ∈ ts, I64 z) (hl : zs.length ≤ 1000000) (hm : (zs.mergeSort fun x y => decide (x ≤ y)) = ts) :
    Calls Tryd.prog 27 #[v] w fun x w' => x = .returned (.tuple #[]) ∧ Nums w' v ts ∧ w.grownBy w' v.ownBlock := by
  have hlen : ts.length = zs.length := by rw [← hm]; exact List.length_mergeSort _
  rcases hO.2 with ⟨rfl, h0⟩ | ⟨g, cap, cur, rfl, hbase, hb, h1, h2, h3, h4⟩
  · have e1 : ts = [] := List.eq_nil_of_length_eq_zero (by omega)
    subst e1
    refine (AnyM.slices_Sort_int_none Tryd.sortI none 0 w).mono ?_
    rintro x w' ⟨rfl, rfl⟩
    exact ⟨rfl, Nums.nil _, ⟨rfl, rfl, rfl, Nat.le_refl _, fun _ _ _ => rfl⟩⟩
  · refine (AnyM.slices_Sort_int Tryd.sortI g 0 cap zs w (holds_of_blockI hb (by rw [Nat.mul_one] at h4; exact h4)) (Array.getElem?_eq_some_iff.1 hb).1 (by omega)).mono ?_
    rintro x w' ⟨rfl, n, os, rfl⟩
    rw [hm]
    refine ⟨rfl, ?_, grownBy_sortedI _⟩
    have := ownsRow_sortedI (os := os) (n := n) hlen hbase hb h1 h2 h3
    rw [← hlen] at this ⊢
    exact Nums.ofOwn this hz

/-! ### A key's number, with the world behind the call written out -/
theorem rightG_any (h p : Int) (w : World) :
    Calls Tryd.prog 17 #[.agg #[.int .i64 h, .int .i64 p]] w fun e w' => e = .returned (.bool (isR (h, p))) ∧ ∃ os, w' = grow w os := by
  by_cases h1 : 1 ≤ h
  · by_cases h2 : h ≤ 64
    · by_cases h3 : 0 ≤ p
      · by_cases h4 : p ≤ 4095
        · have e4 : p < 4096 := by omega
          have HK : Hid (isR (h, p) = true) := decide_eq_true ⟨h1, h2, h3, h4⟩
          go_enter Tryd.func17, Tryd.ntmps17
          go_wp2
          go_ret
          exact ⟨ret_bool HK.out.symm, _, alloc_eq_grow _ _⟩
        · have e4 : ¬ p < 4096 := by omega
          have HK : Hid (isR (h, p) = false) := decide_eq_false (fun e => h4 e.2.2.2)
          go_enter Tryd.func17, Tryd.ntmps17
          go_wp2
          go_ret
          exact ⟨ret_bool HK.out.symm, _, alloc_eq_grow _ _⟩
      · have HK : Hid (isR (h, p) = false) := decide_eq_false (fun e => h3 e.2.2.1)
        go_enter Tryd.func17, Tryd.ntmps17
        go_wp2
        go_ret
        exact ⟨ret_bool HK.out.symm, _, alloc_eq_grow _ _⟩
    · have HK : Hid (isR (h, p) = false) := decide_eq_false (fun e => h2 e.2.1)
      go_enter Tryd.func17, Tryd.ntmps17
      go_wp2
      go_ret
      exact ⟨ret_bool HK.out.symm, _, alloc_eq_grow _ _⟩
  · have HK : Hid (isR (h, p) = false) := decide_eq_false (fun e => h1 e.1)
    go_enter Tryd.func17, Tryd.ntmps17
    go_wp2
    go_ret
    exact ⟨ret_bool HK.out.symm, _, alloc_eq_grow _ _⟩
theorem grow_cells {w : World} {os : Array Obj} (a b : Value) (t : TypeId) : (grow (w.alloc (.cells #[a, b] t)) os).cell? ⟨w.heap.size, 0, none⟩ = some a ∧ (grow (w.alloc (.cells #[a, b] t)) os).cell? ⟨w.heap.size, 1, none⟩ = some b := by
  refine ⟨?_, ?_⟩ <;> rw [cell?_grow _ _ _ (by simp)] <;> simp
theorem numberG_any (h p : Int) (w : World) :
    Calls Tryd.prog 23 #[.agg #[.int .i64 h, .int .i64 p]] w fun e w' => e = .returned (.int .i64 (numK (h, p))) ∧ ∃ q os, w' = grow (w.drewN q) os := by
  have HR : Hid (∀ W, Calls Tryd.prog 17 #[.agg #[.int .i64 h, .int .i64 p]] W fun e w' => e = .returned (.bool (isR (h, p))) ∧ ∃ os, w' = grow W os) := rightG_any h p
  by_cases hr : isR (h, p) = true
  · have HN : Hid (numK (h, p) = 4096 * h + p) := by unfold Hid numK; rw [if_pos hr]
    rw [hr] at HR
    obtain ⟨b1, b2, b3, b4⟩ := isR_iff.1 hr
    simp only at b1 b2 b3 b4
    clear hr
    obtain ⟨H, rfl⟩ : ∃ H : Nat, h = (H : Int) := ⟨h.toNat, by rw [Int.toNat_of_nonneg]; omega⟩
    obtain ⟨Q, rfl⟩ : ∃ Q : Nat, p = (Q : Int) := ⟨p.toNat, by rw [Int.toNat_of_nonneg]; omega⟩
    have hH : H ≤ 64 := by omega
    have hQ : Q < 4096 := by omega
    have HO : Hid (bits .or .i64 (4096 * H : Nat) (Q : Nat) = ((4096 * H + Q : Nat) : Int)) := or_low Q H hQ hH
    have hs : ((H : Nat) : Int) * 4096 = ((4096 * H : Nat) : Int) := by omega
    obtain ⟨M, hM⟩ : ∃ M, M = 4096 * H := ⟨_, rfl⟩
    rw [← hM] at HO hs
    have hMb : M ≤ 262144 := by omega
    have HM : Hid (M = 4096 * H) := hM
    clear hM
    go_enter Tryd.func23, Tryd.ntmps23
    go_wp2_with fail
    refine (HR.out _).mono ?_
    rintro e w1 ⟨rfl, os, hw1⟩
    obtain ⟨c0, c1⟩ := grow_cells (w := w) (os := os) (.int .i64 (H : Nat)) (.int .i64 (Q : Nat)) 29
    rw [← hw1] at c0 c1
    have HB : Hid (∃ q os', w1 = grow (w.drewN q) os') := ⟨0, _, by rw [hw1, alloc_eq_grow, grow_grow]; rfl⟩
    clear hw1 HR
    go_wp2
    go_ret
    refine ⟨ret_int ?_, HB.out⟩
    rw [HN.out]
    have h1 := HO.out
    have h2 := HM.out
    first
      | (rw [h1]; omega)
      | (simp only [hs, h1]; omega)
      | trace_state
  · have HN : Hid (numK (h, p) = 0) := by unfold Hid numK; rw [if_neg hr]
    rw [Bool.eq_false_iff.2 hr] at HR
    clear hr
    go_enter Tryd.func23, Tryd.ntmps23
    go_wp2_with fail
    refine (HR.out _).mono ?_
    rintro e w1 ⟨rfl, os, hw1⟩
    have HB : Hid (∃ q os', w1 = grow (w.drewN q) os') := ⟨0, _, by rw [hw1, alloc_eq_grow, grow_grow]; rfl⟩
    clear hw1 HR
    go_wp2
    go_ret
    exact ⟨ret_int HN.out.symm, HB.out⟩

theorem Tryd.mixed12 : Tryd.prog.follows .mixedOrders = true := by kernel_rfl
/-! ### Mapped pages by their keys' numbers -/
def cmpM (a b : Md) : Int := cmpI (numK a.k) (numK b.k)
theorem ltOf_cmpM (a b : Md) : ltOf cmpM a b = decide (numK a.k < numK b.k) := by
  unfold ltOf cmpM cmpI
  by_cases h1 : numK a.k < numK b.k
  · simp [h1]
  · by_cases h2 : numK b.k < numK a.k <;> simp [h1, h2]
theorem swoM : SWO (ltOf cmpM) where
  irrefl x := by rw [ltOf_cmpM]; exact decide_eq_false (by omega)
  trans x y z h1 h2 := by
    rw [ltOf_cmpM] at *
    simp only [decide_eq_true_eq] at *
    omega
  ntrans x y z h1 h2 := by
    rw [ltOf_cmpM] at *
    simp only [decide_eq_false_iff_not] at *
    omega
theorem two_cells {w : World} {a b c d e a' b' c' d' e' : Value} {t : TypeId} (n : Nat) (os : Array Obj) :
    ((grow ((((w.alloc (.cells #[a, b, c, d, e] t)).alloc (.cells #[a', b', c', d', e'] t))).drewN n) os).cell? ⟨w.heap.size, 0, none⟩ = some a ∧ (grow ((((w.alloc (.cells #[a, b, c, d, e] t)).alloc (.cells #[a', b', c', d', e'] t))).drewN n) os).cell? ⟨w.heap.size, 1, none⟩ = some b) ∧
    (grow ((((w.alloc (.cells #[a, b, c, d, e] t)).alloc (.cells #[a', b', c', d', e'] t))).drewN n) os).cell? ⟨w.heap.size + 1, 0, none⟩ = some a' ∧ (grow ((((w.alloc (.cells #[a, b, c, d, e] t)).alloc (.cells #[a', b', c', d', e'] t))).drewN n) os).cell? ⟨w.heap.size + 1, 1, none⟩ = some b' := by
  have h1 : w.heap.size < (((w.alloc (.cells #[a, b, c, d, e] t)).alloc (.cells #[a', b', c', d', e'] t)).drewN n).heap.size := by show _ < ((w.alloc (.cells #[a, b, c, d, e] t)).alloc (.cells #[a', b', c', d', e'] t)).heap.size; simp; omega
  have h2 : w.heap.size + 1 < (((w.alloc (.cells #[a, b, c, d, e] t)).alloc (.cells #[a', b', c', d', e'] t)).drewN n).heap.size := by show _ < ((w.alloc (.cells #[a, b, c, d, e] t)).alloc (.cells #[a', b', c', d', e'] t)).heap.size; simp
  refine ⟨⟨?_, ?_⟩, ?_, ?_⟩
  · rw [cell?_grow _ _ _ h1]
    show ((w.alloc (.cells #[a, b, c, d, e] t)).alloc (.cells #[a', b', c', d', e'] t)).cell? _ = _
    simp
  · rw [cell?_grow _ _ _ h1]
    show ((w.alloc (.cells #[a, b, c, d, e] t)).alloc (.cells #[a', b', c', d', e'] t)).cell? _ = _
    simp
  · rw [cell?_grow _ _ _ h2]
    show ((w.alloc (.cells #[a, b, c, d, e] t)).alloc (.cells #[a', b', c', d', e'] t)).cell? _ = _
    simp
  · rw [cell?_grow _ _ _ h2]
    show ((w.alloc (.cells #[a, b, c, d, e] t)).alloc (.cells #[a', b', c', d', e'] t)).cell? _ = _
    simp
theorem cmpMd_any (a b : Md) (w : World) :
    Calls Tryd.prog 35 #[.agg (encM a).toArray, .agg (encM b).toArray] w fun e w' => e = .returned (.int .i64 (cmpM a b)) ∧ ∃ q os, w' = grow (w.drewN q) os := by
  obtain ⟨ah, ap, az, ag, au⟩ := a
  obtain ⟨bh, bp, bz, bg, bu⟩ := b
  have HC : Hid (cmpM ⟨ah, ap, az, ag, au⟩ ⟨bh, bp, bz, bg, bu⟩ = cmpI (numK (ah, ap)) (numK (bh, bp))) := rfl
  rw [HC.out]
  clear HC
  show Calls Tryd.prog 35 #[.agg #[.int .i64 ah, .int .i64 ap, .int .i64 az, .int .i64 ag, .int .u32 (au : Nat)], .agg #[.int .i64 bh, .int .i64 bp, .int .i64 bz, .int .i64 bg, .int .u32 (bu : Nat)]] w _
  have HN1 : Hid (∀ W, Calls Tryd.prog 23 #[.agg #[.int .i64 ah, .int .i64 ap]] W fun e w' => e = .returned (.int .i64 (numK (ah, ap))) ∧ ∃ q os, w' = grow (W.drewN q) os) := numberG_any ah ap
  have HN2 : Hid (∀ W, Calls Tryd.prog 23 #[.agg #[.int .i64 bh, .int .i64 bp]] W fun e w' => e = .returned (.int .i64 (numK (bh, bp))) ∧ ∃ q os, w' = grow (W.drewN q) os) := numberG_any bh bp
  generalize numK (ah, ap) = NA at *
  generalize numK (bh, bp) = NB at *
  have HCM : Hid (∀ W, Calls Tryd.prog 36 #[.int .i64 NA, .int .i64 NB] W fun e w' => e = .returned (.int .i64 (cmpI NA NB)) ∧ w' = W) := fun W => compare_any NA NB W
  go_enter Tryd.func35, Tryd.ntmps35
  go_wp2_with fail
  have HT : Hid (∀ n os, _) := fun n os => two_cells (w := w) (a := .int .i64 ah) (b := .int .i64 ap) (c := .int .i64 az) (d := .int .i64 ag) (e := .int .u32 (au : Nat)) (a' := .int .i64 bh) (b' := .int .i64 bp) (c' := .int .i64 bz) (d' := .int .i64 bg) (e' := .int .u32 (bu : Nat)) (t := 47) n os
  obtain ⟨W, hW⟩ : ∃ W, W = (w.alloc (.cells #[.int .i64 ah, .int .i64 ap, .int .i64 az, .int .i64 ag, .int .u32 (au : Nat)] 47)).alloc (.cells #[.int .i64 bh, .int .i64 bp, .int .i64 bz, .int .i64 bg, .int .u32 (bu : Nat)] 47) := ⟨_, rfl⟩
  have HG : Hid (∀ n os, ∃ q os', grow (W.drewN n) os = grow (w.drewN q) os') := fun n os => by
    rw [hW, alloc_eq_grow, alloc_eq_grow, grow_grow]
    exact ⟨n, _, grow_grow (w.drewN n) _ os⟩
  rw [← hW] at HT ⊢
  clear hW
  obtain ⟨X, hX⟩ : ∃ X, X = w.heap.size := ⟨_, rfl⟩
  obtain ⟨Y, hY⟩ : ∃ Y, Y = X + 1 := ⟨_, rfl⟩
  rw [← hX, ← hY] at HT
  rw [← hX]
  try rw [← hY]
  have l0 := fun n os => (HT.out n os).1.1
  have l1 := fun n os => (HT.out n os).1.2
  have l2 := fun n os => (HT.out n os).2.1
  have l3 := fun n os => (HT.out n os).2.2
  clear hX hY
  have k1 : ∀ n os, Calls Tryd.prog 23 #[.agg #[.int .i64 ah, .int .i64 ap]] (grow (W.drewN n) os) fun e w'' => e = .returned (.int .i64 NA) ∧ ∃ p : GrownBy, w'' = grow (W.drewN p.n) p.os := fun n os => Calls.grown_of (HN1.out _)
  have k2 : ∀ n os, Calls Tryd.prog 23 #[.agg #[.int .i64 bh, .int .i64 bp]] (grow (W.drewN n) os) fun e w'' => e = .returned (.int .i64 NB) ∧ ∃ p : GrownBy, w'' = grow (W.drewN p.n) p.os := fun n os => Calls.grown_of (HN2.out _)
  have k3 : ∀ n os, Calls Tryd.prog 36 #[.int .i64 NA, .int .i64 NB] (grow (W.drewN n) os) fun e w'' => e = .returned (.int .i64 (cmpI NA NB)) ∧ ∃ p : GrownBy, w'' = grow (W.drewN p.n) p.os := fun n os => (HCM.out _).mono fun _ _ ⟨he, hw⟩ => ⟨he, ⟨n, os⟩, hw⟩
  have mixed := Tryd.mixed12
  clear HN1 HN2 HCM HT
  go_quiet_grown ((first | (go_at_call 23; first | with_reducible exact k1 _ _ | with_reducible exact k2 _ _) | (go_at_call 36; with_reducible exact k3 _ _)))
  clear l0 l1 l2 l3 k1 k2 k3
  go_wp2
  go_ret
  exact ⟨rfl, HG.out _ _⟩
end Go.Proofs.YtjhkcdnfnmglhaaDoor

/- slices.SortFunc over mapped pages: by their keys' numbers. -/
namespace Go.Proofs.YtjhkcdnfnmglhaaDoor
open Go.RowKit Go.Shelf Go.Lib Go.Sort
set_option linter.unusedVariables false
set_option maxRecDepth 20000

theorem numK_lt {a b : Ky} (ha : isR a = true) (hb : isR b = true) (h : KLt a b) : numK a < numK b := by
  obtain ⟨a1, a2⟩ := a
  obtain ⟨b1, b2⟩ := b
  have x := isR_iff.1 ha
  have y := isR_iff.1 hb
  unfold numK
  rw [if_pos ha, if_pos hb]
  unfold KLt at h
  simp only at *
  omega
theorem numK_inj {a b : Ky} (ha : isR a = true) (hb : isR b = true) (h : numK a = numK b) : a = b := by
  obtain ⟨a1, a2⟩ := a
  obtain ⟨b1, b2⟩ := b
  have x := isR_iff.1 ha
  have y := isR_iff.1 hb
  unfold numK at h
  rw [if_pos ha, if_pos hb] at h
  simp only at *
  have e1 : a1 = b1 := by omega
  have e2 : a2 = b2 := by omega
  rw [e1, e2]
theorem md_ext {l : List Md} (hn : (l.map Md.k).Nodup) {a b : Md} (ha : a ∈ l) (hb : b ∈ l) (e : a.k = b.k) : a = b := by
  have h1 := mem_find hn ha
  have h2 := mem_find hn hb
  rw [e, h2] at h1
  simp only [Option.some.injEq, Prod.mk.injEq] at h1
  obtain ⟨q1, q2, q3, q4, q5⟩ := a
  obtain ⟨r1, r2, r3, r4, r5⟩ := b
  simp only [Md.k, Prod.mk.injEq] at e h1
  obtain ⟨x1, x2⟩ := e
  obtain ⟨x3, x4, x5⟩ := h1
  subst x1 x2 x3 x4 x5
  rfl
/-- A sorted row, some order of a list by rising keys, is that list. -/
theorem sorted_is [Inhabited Md] {ss T : List Md} {d : Array Md} (hp : ss.Perm T) (hT : Rise T) (hr : ∀ k ∈ T.map Md.k, isR k = true) (hP : PermIn 0 ss.toArray.size ss.toArray d) (hS : SortedIn (ltOf cmpM) 0 ss.toArray.size d) : d.toList = T := by
  obtain ⟨hsz, _, hperm⟩ := hP
  have e1 : d.extract 0 ss.toArray.size = d := by rw [← hsz]; exact Array.extract_size
  rw [e1, Array.extract_size] at hperm
  have hdT : d.toList.Perm T := hperm.trans hp
  have hin : ∀ m ∈ T, isR m.k = true := fun m hm => hr _ (List.mem_map.2 ⟨m, hm, rfl⟩)
  refine List.Perm.eq_of_pairwise (le := fun x y => numK x.k ≤ numK y.k) (fun a b ha hb h1 h2 => ?_) ?_ ?_ hdT
  · have ha' := hdT.mem_iff.1 ha
    exact md_ext hT.nodup ha' hb (numK_inj (hin a ha') (hin b hb) (Int.le_antisymm h1 h2))
  · rw [List.pairwise_iff_getElem]
    intro i j hi hj hij
    have hi' : i < d.size := by simpa using hi
    have hj' : j < d.size := by simpa using hj
    have := hS i j (Nat.zero_le _) hij (by rw [← hsz]; exact hj')
    rw [getElem!_pos d j hj', getElem!_pos d i hi', ltOf_cmpM] at this
    have h3 := of_decide_eq_false this
    simp only [Array.getElem_toList]
    omega
  · have h1 : T.Pairwise fun a b => KLt a.k b.k := List.pairwise_map.1 hT
    exact List.Pairwise.imp_of_mem (fun {a b} ha hb h => Int.le_of_lt (numK_lt (hin a ha) (hin b hb) h)) h1
theorem encM_at (m : Md) : (encM m)[0]! = .int .i64 m.h ∧ (encM m)[1]! = .int .i64 m.p ∧ (encM m)[2]! = .int .i64 m.s ∧ (encM m)[3]! = .int .i64 m.g ∧ (encM m)[4]! = .int .u32 (m.u : Nat) := ⟨rfl, rfl, rfl, rfl, rfl⟩
theorem flatM_at [Inhabited Md] (ss : List Md) (j : Nat) (hj : j < ss.length * 5) : (flatK encM 5 ss.toArray)[j]! = (ecells encM ss)[j]?.getD undef := by
  rw [get_flatK _ _ _ _ (by simpa using hj)]
  have h1 : j / 5 < ss.length := by omega
  have hk : ss[j / 5]? = some ss[j / 5] := List.getElem?_eq_getElem h1
  have hg : (ss.toArray)[j / 5]! = ss[j / 5] := by simp [h1]
  rw [hg]
  have hm : j % 5 < (encM ss[j / 5]).length := by show _ < 5; omega
  have hc := ecells_at encM_ok ss (j / 5) _ hk (j % 5) _ (List.getElem?_eq_getElem hm)
  rw [show j / 5 * 5 + j % 5 = j by omega] at hc
  rw [hc, Option.getD_some, getElem!_pos (encM ss[j / 5]) (j % 5) hm]
theorem holds_ownM [Inhabited Md] {w : World} {g : Nat} {cur : Array Value} {e : TypeId} {ss : List Md} (hb : w.heap[g]? = some (.cells cur e (0, 0))) (h4 : cur.toList.take (ss.length * 5) = ecells encM ss) : HoldsK encM 5 w g 0 ss.toArray := by
  intro j hj
  have hj' : j < ss.length * 5 := by simpa using hj
  have hlen := ecells_length encM_ok ss
  have hat : cur[j]? = some ((ecells encM ss)[j]?.getD undef) := by
    have h5 : (ecells encM ss)[j]? = some (ecells encM ss)[j] := List.getElem?_eq_getElem (by omega)
    rw [h5, Option.getD_some, ← h5, ← h4, List.getElem?_take_of_lt hj', Array.getElem?_toList]
  refine ⟨?_, ?_⟩
  · show w.cell? ⟨g, 0 + j, none⟩ = some (id (flatK encM 5 ss.toArray)[j]!)
    rw [flatM_at ss j hj', Nat.zero_add]
    simp [World.cell?, hb, hat]
  · simp [World.frozen?, hb]
theorem els_heldM [Inhabited Md] {w : World} {g cap : Nat} {ss : List Md} (h : HoldsK encM 5 w g 0 ss.toArray) (hg : g < w.heap.size) (h1 : ss.length ≤ cap) (h2 : cap ≤ maxLen) : Els encM 5 w (.slice (some ⟨g, 0, none⟩) ss.length cap) ss := by
  refine ⟨Nat.le_trans h1 h2, _, cap, rfl, h1, h2, .inr ⟨_, rfl, .inr ⟨g, 0, rfl, hg, fun j y hj i u hi => ?_⟩⟩⟩
  have hjl : j < ss.length := (List.getElem?_eq_some_iff.1 hj).1
  have hget : (ss.toArray)[j]! = y := by
    rw [List.getElem?_eq_getElem hjl] at hj
    simpa [hjl] using hj
  have hil : i < 5 := (List.getElem?_eq_some_iff.1 hi).1
  have a := (h.cell (i := j) (c := i) (by simpa using hjl) hil).1
  rw [hget] at a
  rw [a, getElem!_pos (encM y) i (by exact hil)]
  rw [List.getElem?_eq_getElem (by exact hil)] at hi
  exact hi
theorem heap_sortedM [Inhabited Md] (w : World) (blk off n : Nat) (d : Array Md) (os : Array Obj) : w.grownBy (sortWorldK encM 5 w blk off n d os) (some blk) := by
  refine ⟨rfl, rfl, rfl, ?_, fun i hi hne => ?_⟩
  · simp [sortWorldK, putRowK, putRow, mapBlock, Sort.grow]
  · have hne' : blk ≠ i := fun e => hne (by rw [e])
    simp only [sortWorldK, Sort.grow, putRowK, putRow, mapBlock]
    rw [Array.getElem?_append_left (by simpa using hi), Array.getElem?_modify, if_neg hne']
    rfl
theorem layM [Inhabited Md] (blk off size : Nat) (w : World) : CmpLays Tryd.prog 35 #[] encM 5 cmpM blk off size w :=
  fun _ _ _ _ x y => cmpMd_any x y _
set_option maxHeartbeats 1000000 in
theorem sortMds_any (w : World) (base : Nat) (v : Value) (ss T : List Md) (hO : w.ownsRow base 47 5 v ss.length (ecells encM ss)) (hl : ss.length ≤ 1000000) (hp : ss.Perm T) (hT : Rise T) (hr : ∀ k ∈ T.map Md.k, isR k = true) :
    Calls Tryd.prog 34 #[v, .func (.func 35) #[] #[]] w fun x w' => x = .returned (.tuple #[]) ∧ Els encM 5 w' v T ∧ w.grownBy w' v.ownBlock := by
  haveI : Inhabited Md := ⟨⟨0, 0, 0, 0, 0⟩⟩
  have hlen : T.length = ss.length := hp.symm.length_eq
  rcases hO.2 with ⟨rfl, h0⟩ | ⟨g, cap, cur, rfl, hbase, hb, h1, h2, h3, h4⟩
  · have e1 : T = [] := List.eq_nil_of_length_eq_zero (by omega)
    subst e1
    rw [h0] at hO
    refine (AnyF.slices_SortFunc_none Tryd.sortM none 0 _ w).mono ?_
    rintro x w' ⟨rfl, rfl⟩
    exact ⟨rfl, Els.nil _, ⟨rfl, rfl, rfl, Nat.le_refl _, fun _ _ _ => rfl⟩⟩
  · have hgl : g < w.heap.size := (Array.getElem?_eq_some_iff.1 hb).1
    have hH : HoldsK encM 5 w g 0 ss.toArray := holds_ownM hb h4
    have eg : ∀ args w, (callFunc 35 args).run Tryd.prog w = .ok (.enter 35 args) w := enters_of Tryd.func35 (by kernel_rfl) rfl
    have key := AnyQ.slices_SortFunc Tryd.sortM 5 Tryd.isAgg47 Tryd.sizeOf47 encM (fun _ => rfl) (fun x v hv => encM_ok.one x v hv) cmpM swoM 35 #[] g 0 cap ss.toArray w eg (layM g 0 ss.toArray.size w) hH hgl (by simp; omega)
    rw [List.size_toArray] at key
    refine key.mono ?_
    rintro x w' ⟨rfl, d, n, os, hP, hS, rfl⟩
    have hd : d = T.toArray := by
      rw [← sorted_is hp hT hr (by rw [List.size_toArray]; exact hP) (by rw [List.size_toArray]; exact hS)]
    subst hd
    have hgr := heap_sortedM w g 0 n T.toArray os
    refine ⟨rfl, ?_, hgr⟩
    have hh : HoldsK encM 5 (sortWorldK encM 5 w g 0 n T.toArray os) g 0 T.toArray :=
      SWK.holds (w0 := w) (d0 := ss.toArray) ⟨n, os, rfl⟩ hgl hH (by simp [hlen])
    have := els_heldM (cap := cap) hh (Nat.lt_of_lt_of_le hgl hgr.size) (by rw [hlen]; exact h1) h2
    rwa [hlen] at this
end Go.Proofs.YtjhkcdnfnmglhaaDoor
