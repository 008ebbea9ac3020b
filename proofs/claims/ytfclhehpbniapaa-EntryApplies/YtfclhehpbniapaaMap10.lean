/- Maps from keys to how often each is there: what a key reads as; the map that Count makes. -/
import Derived.Test.YtfclhehpbniapaaKeys10
import Derived.Maps.RangeWalk
import Derived.Maps.OwnOps
import Derived.Maps.OwnSet
import Derived.Maps.Ext
import Derived.DeepKeys4
import Derived.WideKeyEntry
namespace Go.Proofs.Ytfclhehpbniapaa
open Go.RowKit Go.Maps Go.ChangeShapes Go.WideShapes
set_option linter.unusedVariables false
set_option maxRecDepth 20000

theorem Try.laid10 : laidOutB Try.prog = true := by kernel_rfl
theorem Try.rowK10 : (36 : TypeId) < Try.prog.types.size := of_decide_eq_true (by kernel_rfl)
theorem Try.wideK10 : (match Try.prog.underlying 36 with | some (.array _ _) | some (.struct _) => true | _ => false) = true := by rw [Try.underlying36]
theorem lawK : Keyed Try.prog 36 := Keyed.of_law (deep_law_laid Try.laid10 (m := 2) (by omega) Try.rowK10 (by kernel_rfl) Try.wideK10)
theorem Try.keyT10 : Try.prog.keyType 36 = true := by kernel_rfl
theorem Try.cells10 : Try.prog.cellsOf 36 = 2 := by kernel_rfl

/-- What a key reads as. -/
def klit (k : Ky) : Lit := .string (keyBytes [.int .i64 k.1, .int .i64 k.2])
theorem Try.types10 : ∃ n, Try.prog.types.size = n + 1 := by
  have := Try.rowK10
  cases h : Try.prog.types.size with
  | zero => rw [h] at this; exact absurd this (by decide)
  | succ n => exact ⟨n, rfl⟩
theorem keyOf_k {k : Ky} (h : KI k) : keyOf Try.prog 36 (.agg #[.int .i64 k.1, .int .i64 k.2]) = some (klit k) := by
  have w1 : (Lit.int .i64 k.1).wf = true := by simpa [Lit.wf, IntKind.min, IntKind.max, IntKind.signed, IntKind.bits, I64] using h.1
  have w2 : (Lit.int .i64 k.2).wf = true := by simpa [Lit.wf, IntKind.min, IntKind.max, IntKind.signed, IntKind.bits, I64] using h.2
  have hf : (Value.agg #[.int .i64 k.1, .int .i64 k.2]).formed Try.prog 36 = true := by simp [Value.formed, Try.underlying36, Try.cells10]
  have c1 : Try.prog.cellsOf 3 = 1 := by kernel_rfl
  obtain ⟨n, hn⟩ := Try.types10
  unfold keyOf
  simp only [Try.underlying36, Try.keyT10, hf, Bool.and_self, if_true, hn]
  simp [Program.keyLits, Try.underlying36, Try.underlying3, Try.cells10, c1, Value.cells, w1, w2, klit]
theorem lits1 {n : Nat} {v : Value} {l : List Lit} (h : Try.prog.keyLits (n + 1) 3 [v] = some l) : ∃ z, v = .int .i64 z ∧ (Lit.int .i64 z).wf = true ∧ l = [.int .i64 z] := by
  unfold Program.keyLits at h
  rw [Try.underlying3] at h
  cases v <;> simp at h
  obtain ⟨⟨rfl, hw⟩, rfl⟩ := h
  exact ⟨_, rfl, hw, rfl⟩
theorem keyOf_inv {v : Value} {l : Lit} (h : keyOf Try.prog 36 v = some l) : ∃ k : Ky, KI k ∧ v = .agg #[.int .i64 k.1, .int .i64 k.2] ∧ l = klit k := by
  have c1 : Try.prog.cellsOf 3 = 1 := by kernel_rfl
  obtain ⟨n, hn⟩ := Try.types10
  unfold keyOf at h
  simp only [Try.underlying36, Try.keyT10, Bool.true_and, hn] at h
  split at h
  · rename_i hf
    unfold Value.formed at hf
    split at hf
    · rename_i cs
      simp only [Try.underlying36, Try.cells10, beq_iff_eq] at hf
      obtain ⟨v0, v1, e⟩ := list2 (l := cs.toList) (by simpa using hf)
      have hcs : cs = #[v0, v1] := by
        apply Array.ext'
        simpa using e
      subst hcs
      unfold Program.keyLits at h
      simp [Try.underlying36, Try.cells10, c1, Value.cells, Option.bind_eq_some_iff] at h
      obtain ⟨l0, h0, _, ⟨l1, h1, rfl⟩, rfl⟩ := h
      obtain ⟨z0, rfl, w0, rfl⟩ := lits1 h0
      obtain ⟨z1, rfl, w1, rfl⟩ := lits1 h1
      refine ⟨(z0, z1), ⟨?_, ?_⟩, rfl, rfl⟩
      · simpa [Lit.wf, IntKind.min, IntKind.max, IntKind.signed, IntKind.bits, I64] using w0
      · simpa [Lit.wf, IntKind.min, IntKind.max, IntKind.signed, IntKind.bits, I64] using w1
    · cases hf
    · simp [Try.underlying36] at hf
  · cases h
theorem klit_inj {a b : Ky} (ha : KI a) (hb : KI b) (e : klit a = klit b) : a = b := by
  have h1 := keyOf_k ha
  have h2 := keyOf_k hb
  rw [e] at h1
  have h3 := lawK.inj h1 h2
  simp only [Value.agg.injEq, Array.mk.injEq, List.cons.injEq, Value.int.injEq, true_and, and_true] at h3
  exact Prod.ext h3.1 h3.2
theorem klit_key (k : Ky) : WideAt.IsKeyLit (klit k) := trivial
theorem klit_same {a b : Ky} (ha : KI a) (hb : KI b) : (klit a).sameKey (klit b) = decide (a = b) := by
  by_cases h : a = b
  · subst h
    rw [WideAt.sameKey_self (klit_key a), decide_eq_true rfl]
  · rw [sameKey_ne (fun e => h (klit_inj ha hb e)), decide_eq_false h]

/-! ### Counts -/
abbrev Dw : Type := DataW Unit
/-- How often each of ks is there. -/
structure CountD (D : Dw) (ks : List Ky) : Prop where
  fit : ∀ k ∈ ks, KI k
  times : ∀ k, KI k → D.atKey (klit k) (.lit (.int .i64 0)) = .lit (.int .i64 (ks.count k : Nat))
  has : ∀ k, KI k → Maps.has D (klit k) = decide (k ∈ ks)
  size : Maps.size D = (sortR ks).length
theorem CountD.nil : CountD (.map []) [] := ⟨by simp, fun k _ => rfl, fun k _ => rfl, rfl⟩
theorem CountD.snoc {D : Dw} {ks : List Ky} (h : CountD D ks) (hD : Tidy D) {x : Ky} (hx : KI x) : CountD (D.put (klit x) (.lit (.int .i64 ((ks.count x : Nat) + 1)))) (ks ++ [x]) := by
  refine ⟨fun k hk => ?_, fun k hk => ?_, fun k hk => ?_, ?_⟩
  · rw [List.mem_append, List.mem_singleton] at hk
    exact hk.elim (h.fit k) (fun e => e ▸ hx)
  · by_cases e : k = x
    · subst e
      rw [atKey_put_same hD.isMap (klit_key k)]
      simp
    · rw [atKey_put_other (fun e' => e (klit_inj hk hx e')), h.times k hk, List.count_append, List.count_cons]
      have : (x == k) = false := by simpa using fun e' => e e'.symm
      simp [this]
  · by_cases e : k = x
    · subst e
      rw [has_put_same hD.isMap (klit_key k)]
      simp
    · rw [has_put_other (fun e' => e (klit_inj hk hx e')), h.has k hk]
      simp [e]
  · rw [size_put hD, h.has x hx, h.size, sortR_snoc, ins_len]
    by_cases hm : x ∈ ks
    · simp [hm, sortR_mem.2 hm]
    · have hn : x ∉ sortR ks := fun h => hm (sortR_mem.1 h)
      simp [hm, hn]
/-- The map's block, with how often each of ks is there. -/
def MapAt (w : World) (b : Nat) (ks : List Ky) : Prop := ∃ D : Dw, w.ownsMap Try.prog 36 (plainElem Try.prog 3) b ks.length D ∧ CountD D ks
theorem MapAt.lt {w : World} {b : Nat} {ks : List Ky} (h : MapAt w b ks) : b < w.heap.size := by
  obtain ⟨D, h1, _⟩ := h
  exact h1.lt
theorem MapAt.grown {w w' : World} {b : Nat} {ks : List Ky} {row : Option Nat} (h : MapAt w b ks) (hg : w.grownBy w' row) (hne : some b ≠ row) : MapAt w' b ks := by
  obtain ⟨D, h1, h2⟩ := h
  exact ⟨D, h1.kept hg hne, h2⟩
theorem grown_below {w w' : World} (h : Below w.heap.size w w') : w.grownBy w' none := ⟨h.os, h.tape, h.output, h.size, fun i hi _ => h.block i hi⟩
theorem MapAt.kept {w w' : World} {b : Nat} {ks : List Ky} (h : MapAt w b ks) (hb : Below w.heap.size w w') : MapAt w' b ks := h.grown (grown_below hb) (by simp)
end Go.Proofs.Ytfclhehpbniapaa
