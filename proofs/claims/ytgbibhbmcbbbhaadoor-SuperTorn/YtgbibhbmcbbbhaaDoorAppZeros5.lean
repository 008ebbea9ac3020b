/- A law of my own: 'append(own, make([]byte, m)...)', which the compiler takes as one: so many noughts behind the row. -/
import Derived.Test.YtgbibhbmcbbbhaaDoorCopy5
import Derived.Lib.AppendStr
namespace Go.Proofs.YtgbibhbmcbbbhaaDoor
open Go.RowKit
set_option linter.unusedVariables false

theorem str_zeros (m : Nat) : Lib.strCells (strN (zl m)) = u8s (zl m) := by
  have h := octsOf_strN (zl m) (zl_small m)
  have e : Lib.strCells (strN (zl m)) = u8s (octsOf (strN (zl m))) := by simp [Lib.strCells, u8s, octsOf]
  rw [e, h]
theorem zeroCells_u8 (m : Nat) : Builtin.zeroCells (Value.int .u8 0).cells m = (u8s (zl m)).toArray := by
  apply Array.ext'
  simp only [Builtin.zeroCells, Value.cells, u8s, zl]
  apply List.ext_getElem?
  intro i
  by_cases h : i < m
  · simp [h, Nat.mod_one]
  · simp [h]

theorem run_append_zeros {P : Program} (w : World) (t ti ts ty e : TypeId) (i : TypeInfo) (ht : P.underlying t = some (.slice e)) (hti : P.underlying ti = some (.int .i64)) (hts : P.underlying ts = some .string) (hi : P.info? e = some i) (hz : i.zero = some (.int .u8 0))
    (hsize : i.size = 1) (hby : i.bytes = 1) (b : Option Addr) (l c m : Nat) (hm : 0 < m) (hm2 : m ≤ 100000) (h63 : l + m ≤ 9223372036854775807) (hfit : c < l + m → Builtin.nextslicecap (l + m) c ≤ 281474976710656) :
    (Builtin.append_ #[t, ti] ty #[.slice b l c, .int .i64 (m : Nat)]).run P w = (Builtin.append_ #[t, ts] ty #[.slice b l c, .string (strN (zl m))]).run P w := by
  have hs : (strN (zl m)).size = m := by rw [strN_size, zl_length]
  have hf : ∀ w', (Builtin.firstCells 1 m (.string (strN (zl m)))).run P w' = .ok (u8s (zl m)).toArray w' := fun w' => by
    have := Lib.run_firstCells_string (P := P) w' 1 (strN (zl m))
    rwa [str_zeros, hs] at this
  have hzc := zeroCells_u8 m
  have hw : IntKind.i64.wrap (m : Int) = (m : Int) := by rw [IntKind.wrap_i64]; omega
  have h1 : ¬ ((m : Int) < 0) := by omega
  have h2 : ¬ ((281474976710656 : Int) < m) := by omega
  have h3 : ¬ m = 0 := by omega
  have hai : (asIntOf (.int .i64 (m : Nat))).run P w = .ok (.i64, (m : Int)) w := rfl
  by_cases hr : l + m ≤ c
  · simp [Builtin.append_, run_underlying ht, run_underlying hti, run_underlying hts, sizeOf, typeInfo, zeroValue, hi, hz, hsize, hby, Builtin.lenOf, asInt, hai, hw, h1, h2, h3, hs, hr, hf, hzc]
  · have h4 : ¬ (9223372036854775807 < ((l : Int) + (m : Int))) := by omega
    have h5 : ¬ (281474976710656 < Builtin.nextslicecap (l + m) c) := by have := hfit (by omega); omega
    simp [Builtin.append_, run_underlying ht, run_underlying hti, run_underlying hts, sizeOf, typeInfo, zeroValue, hi, hz, hsize, hby, Builtin.lenOf, asInt, hai, hw, h1, h2, h3, h4, h5, hs, hr, hf, hzc]

theorem wpList_append_zeros {P : Program} (w : World) {ops : Array Oper} {rest : List Oper} {o : Oper} {a : Act} {Q : Exit → Act → World → Prop} (hgd : o.guard = none) (s x : Operand) (t ti ts : TypeId)
    (ho : o.op = .call { callee := .builtin .append, args := #[s, x], argTypes := #[t, ti] })
    (base : Nat) (e : TypeId) (i : TypeInfo) (ht : P.underlying t = some (.slice e)) (hti : P.underlying ti = some (.int .i64)) (hts : P.underlying ts = some .string) (hi : P.info? e = some i) (hz : i.zero = some (.int .u8 0)) (hsize : i.size = 1) (hby : i.bytes = 1)
    (v : Value) (n : Nat) (xs : List Nat) (hs : a.eval s = v) (hown : w.ownsRow base e 1 v n (u8s xs)) (m : Nat) (hx : a.eval x = .int .i64 (m : Nat)) (hm : 0 < m) (hm2 : m ≤ 100000) (hn : n ≤ 100000) (hbase : base ≤ w.heap.size)
    (h : ∀ v' w', w'.ownsRow base e 1 v' (n + m) (u8s (xs ++ zl m)) → w.grownBy w' v.ownBlock → wpList P ops Q rest (a.put o.dst v') w') : wpList P ops Q (o :: rest) a w := by
  refine wpList_plain hgd fun K hK => ?_
  have hsz : (strN (zl m)).size = m := by rw [strN_size, zl_length]
  obtain ⟨v', w', hr, h2, h3, _⟩ := Lib.run_append_own_string (P := P) w base t ts o.type e i ht hts hi hz hsize hby v n (u8s xs) hown (strN (zl m)) (by rw [hsz]; unfold maxLen; omega) (by rw [hsz]; omega) hbase
  rw [hsz, str_zeros, ← u8s_append] at h2
  obtain ⟨b, c, rfl, hc⟩ : ∃ b c, v = .slice b n c ∧ n ≤ c := by
    rcases hown.2 with ⟨rfl, rfl⟩ | ⟨g, cap, cur, rfl, _, _, h, _⟩
    · exact ⟨none, 0, rfl, Nat.le_refl _⟩
    · exact ⟨_, cap, rfl, h⟩
  have hr' := run_append_zeros (P := P) w t ti ts o.type e i ht hti hts hi hz hsize hby b n c m hm hm2 (by omega) (fun hc => by
    have := growslice_fits (need := n + m) (old := c) (bytes := 1) (by omega) (by omega)
    simpa using this)
  rw [hr] at hr'
  unfold Oper.wp execOp
  simp only [ho, resolve, invoke, builtin, Sem.run_bind, Sem.run_pure, Result.andThen_ok, List.map_toArray, List.map_cons, List.map_nil, hs, hx, hr']
  exact hK _ _ (h v' w' h2 h3)
end Go.Proofs.YtgbibhbmcbbbhaaDoor
