/- Maps from keys to entries; contracts of entry.lay and entry.Find. -/
import Derived.Test.YtfclhehpbniapaaMap10
import Derived.Test.YtfclhehpbniapaaWalkTake11
import Derived.Test.YtfclhehpbniapaaRefApply11
namespace Go.Proofs.Ytfclhehpbniapaa
open Go.RowKit Go.Maps
set_option linter.unusedVariables false
set_option maxRecDepth 20000

abbrev Ent : Type := Int × Int × Nat
abbrev evalE (e : Ent) : Value := .agg #[.int .i64 e.1, .int .i64 e.2.1, .int .u32 (e.2.2 : Nat)]
/-- What an entry reads as. -/
def edat (e : Ent) : Dw := .agg [.lit (.int .i64 e.1), .lit (.int .i64 e.2.1), .lit (.int .u32 (e.2.2 : Nat))]
def entR (v : Value) : Option (Dw × List MemPlace) := match v with
  | .agg cs => match cs.toList with
    | [v0, v1, v2] => match v0, v1, v2 with
      | .int .i64 s, .int .i64 g, .int .u32 u => if 0 ≤ u then some (edat (s, g, u.toNat), []) else none
      | _, _, _ => none
    | _ => none
  | _ => none
theorem entR_mk (e : Ent) : entR (evalE e) = some (edat e, []) := by
  obtain ⟨s, g, u⟩ := e
  show (if 0 ≤ ((u : Nat) : Int) then some (edat (s, g, ((u : Nat) : Int).toNat), []) else none) = some (edat (s, g, u), [])
  rw [if_pos (Int.natCast_nonneg u), Int.toNat_natCast]
theorem entR_inv {v : Value} {y : Dw × List MemPlace} (h : entR v = some y) : ∃ e : Ent, v = evalE e ∧ y = (edat e, []) := by
  unfold entR at h
  split at h
  · rename_i cs
    split at h
    · rename_i v0 v1 v2 hcs
      split at h
      · rename_i s g u
        split at h
        · rename_i hu
          cases h
          refine ⟨(s, g, u.toNat), ?_, rfl⟩
          have : cs = #[.int .i64 s, .int .i64 g, .int .u32 u] := by
            apply Array.ext'
            simpa using hcs
          rw [this]
          simp [evalE, Int.toNat_of_nonneg hu]
        · cases h
      · cases h
    · cases h
  · cases h
theorem edat_inj {a b : Ent} (h : edat a = edat b) : a = b := by
  obtain ⟨a1, a2, a3⟩ := a
  obtain ⟨b1, b2, b3⟩ := b
  simp only [edat, DataW.agg.injEq, List.cons.injEq, DataW.lit.injEq, Lit.int.injEq, true_and, and_true] at h
  obtain ⟨h1, h2, h3⟩ := h
  rw [h1, h2, show a3 = b3 by omega]

/-- The entries of ks. -/
structure EntD (D : Dw) (ks : List Ky) (f : Ky → Ent) : Prop where
  fit : ∀ k ∈ ks, KI k
  isMap : IsMap D
  has : ∀ k, KI k → Maps.has D (klit k) = decide (k ∈ ks)
  val : ∀ k, k ∈ ks → ∀ z, D.atKey (klit k) z = edat (f k)
def putF (f : Ky → Ent) (k : Ky) (e : Ent) : Ky → Ent := fun x => if x = k then e else f x
def cutK (ks : List Ky) (k : Ky) : List Ky := ks.filter fun x => !decide (x = k)
theorem EntD.nil (f : Ky → Ent) : EntD (.map []) [] f := ⟨by simp, isMap_empty, fun k _ => rfl, by simp⟩
theorem EntD.put {D : Dw} {ks : List Ky} {f : Ky → Ent} (h : EntD D ks f) {k : Ky} (hk : KI k) (e : Ent) : EntD (D.put (klit k) (edat e)) (ks ++ [k]) (putF f k e) := by
  refine ⟨fun x hx => ?_, h.isMap.put _ _, fun x hx => ?_, fun x hx z => ?_⟩
  · rw [List.mem_append, List.mem_singleton] at hx
    exact hx.elim (h.fit x) (fun e' => e' ▸ hk)
  · by_cases q : x = k
    · subst q
      rw [has_put_same h.isMap (klit_key x)]
      simp
    · rw [has_put_other (fun e' => q (klit_inj hx hk e')), h.has x hx]
      simp [q]
  · by_cases q : x = k
    · subst q
      rw [atKey_put_same h.isMap (klit_key x)]
      simp [putF]
    · have hx' : x ∈ ks := by
        rw [List.mem_append, List.mem_singleton] at hx
        exact hx.resolve_right q
      rw [atKey_put_other (fun e' => q (klit_inj (h.fit x hx') hk e')), h.val x hx']
      simp [putF, q]
theorem EntD.del {D : Dw} {ks : List Ky} {f : Ky → Ent} (h : EntD D ks f) {k : Ky} (hk : KI k) : EntD (D.del (klit k)) (cutK ks k) f := by
  have hm : ∀ x, x ∈ cutK ks k ↔ x ∈ ks ∧ x ≠ k := fun x => by simp [cutK]
  refine ⟨fun x hx => h.fit x ((hm x).1 hx).1, h.isMap.del _, fun x hx => ?_, fun x hx z => ?_⟩
  · by_cases q : x = k
    · subst q
      rw [has_del_same]
      simp [hm]
    · rw [has_del_other (fun e' => q (klit_inj hx hk e')), h.has x hx]
      simp [hm, q]
  · have h2 := (hm x).1 hx
    rw [atKey_del_other (fun e' => h2.2 (klit_inj (h.fit x h2.1) hk e')), h.val x h2.1]
/-- The map's block. -/
def MapE (w : World) (b n : Nat) (ks : List Ky) (f : Ky → Ent) : Prop := ∃ D : Dw, w.ownsMap Try.prog 36 entR b n D ∧ EntD D ks f
theorem zeroEn (w : World) : (zeroValue 39).run Try.prog w = .ok (evalE (0, 0, 0)) w := by kernel_rfl
theorem MapE.made (w : World) (f : Ky → Ent) : MapE (w.alloc (.map #[] 0)) w.heap.size 0 [] f := ⟨_, World.ownsMap_made _ _ _ _, EntD.nil f⟩
theorem MapE.lt {w : World} {b n : Nat} {ks : List Ky} {f : Ky → Ent} (h : MapE w b n ks f) : b < w.heap.size := by
  obtain ⟨D, h1, _⟩ := h
  exact h1.lt
theorem MapE.grown {w w' : World} {b n : Nat} {ks : List Ky} {f : Ky → Ent} {row : Option Nat} (h : MapE w b n ks f) (hg : w.grownBy w' row) (hne : some b ≠ row) : MapE w' b n ks f := by
  obtain ⟨D, h1, h2⟩ := h
  exact ⟨D, h1.kept hg hne, h2⟩
theorem MapE.kept {w w' : World} {b n : Nat} {ks : List Ky} {f : Ky → Ent} (h : MapE w b n ks f) (hb : Below w.heap.size w w') : MapE w' b n ks f := h.grown (grown_below hb) (by simp)
theorem MapE.put {w : World} {b n : Nat} {ks : List Ky} {f : Ky → Ent} (h : MapE w b n ks f) (hn : n < 100000) {k : Ky} (hk : KI k) (e : Ent) :
    ∃ w', (Instr.mapUpdate 61 (.map (some b)) (.agg #[.int .i64 k.1, .int .i64 k.2]) (evalE e)).run Try.prog w = .ok () w' ∧ MapE w' b (n + 1) (ks ++ [k]) (putF f k e) ∧ w.grownBy w' (some b) := by
  obtain ⟨D, h1, h2⟩ := h
  obtain ⟨w', hr, ho, hg⟩ := h1.update lawK Try.underlying61 (by unfold maxLen; omega) (keyOf_k hk) (entR_mk e)
  exact ⟨w', hr, ⟨_, ho, h2.put hk e⟩, hg⟩
theorem MapE.look {w : World} {b n : Nat} {ks : List Ky} {f : Ky → Ent} (h : MapE w b n ks f) {k : Ky} (hk : k ∈ ks) :
    (Instr.lookup 61 (.map (some b)) (.agg #[.int .i64 k.1, .int .i64 k.2]) false).run Try.prog w = .ok (evalE (f k)) w := by
  obtain ⟨D, h1, h2⟩ := h
  obtain ⟨v, ps, hr, hv⟩ := h1.lookup lawK Try.underlying61 (zeroEn w) (entR_mk _) (keyOf_k (h2.fit k hk))
  rw [h2.val k hk] at hv
  obtain ⟨e, rfl, he⟩ := entR_inv hv
  rw [hr, edat_inj (congrArg Prod.fst he)]
/-- 'delete(m, k)'. -/
theorem wpList_delete_ent {w : World} {ops : Array Oper} {rest : List Oper} {o : Oper} {a : Act} {Q : Exit → Act → World → Prop} (hg : o.guard = none) (m x : Operand) (hop : o.op = Op.call { callee := Callee.builtin Builtin.delete, args := #[m, x], argTypes := #[61, 36] })
    {b n : Nat} {ks : List Ky} {f : Ky → Ent} (h : MapE w b n ks f) {k : Ky} (hk : KI k) (hm : a.eval m = .map (some b)) (hx : a.eval x = .agg #[.int .i64 k.1, .int .i64 k.2])
    (hK : ∀ w', Hid (MapE w' b n (cutK ks k) f) → Hid (w.grownBy w' (some b)) → wpList Try.prog ops Q rest (a.put o.dst (.tuple #[])) w') : wpList Try.prog ops Q (o :: rest) a w := by
  obtain ⟨D, h1, h2⟩ := h
  refine wpList_delete_own w hg m x _ _ hop 39 lawK Try.underlying61 entR b n D hm h1 _ _ hx (keyOf_k hk) ?_
  intro w' ho ht
  exact hK w' ⟨_, ho, h2.del hk⟩ ht.grown

/-! ### lay -/
def layF (f : Ky → Ent) (l : List Md) : Ky → Ent := l.foldl (fun f m => putF f m.k (m.s, m.g, m.u)) f
theorem layF_snoc {f : Ky → Ent} {l : List Md} {k : Nat} {m : Md} (h : l[k]? = some m) : layF f (l.take (k + 1)) = putF (layF f (l.take k)) m.k (m.s, m.g, m.u) := by
  unfold layF
  rw [take_snocA h, List.foldl_append]
  rfl
theorem mapk_snoc {l : List Md} {k : Nat} {m : Md} (h : l[k]? = some m) : (l.take (k + 1)).map Md.k = (l.take k).map Md.k ++ [m.k] := by
  rw [take_snocA h, List.map_append]
  rfl
theorem cells2' {w : World} {X : Nat} {a b : Value} {T : TypeId} (h : w.heap[X]? = some (.cells #[a, b] T (0, 0))) : w.cell? ⟨X, 0, none⟩ = some a ∧ w.cell? ⟨X, 1, none⟩ = some b := by
  refine ⟨?_, ?_⟩ <;> simp [World.cell?, h]
set_option maxRecDepth 20000 in
set_option maxHeartbeats 2000000 in
theorem lay11_any (w : World) (X n : Nat) (x : Value) (l : List Md) (ks : List Ky) (f : Ky → Ent) (hX : MapE w X n ks f) (hx : Els encM 5 w x l) (hm : ∀ m ∈ l, MdI m) (hl0 : l.length ≤ 1000) (hn0 : n ≤ 5000) (B : Nat) (hB : B ≤ X) (hxB : ∀ W, Below B w W → Els encM 5 W x l) :
    Calls Try.prog 31 #[.map (some X), x] w fun e w' => e = .returned (.tuple #[]) ∧ MapE w' X (n + l.length) (ks ++ l.map Md.k) (layF f l) ∧ Below B w w' := by
  obtain ⟨a, ca, rfl⟩ := hx.shape
  obtain ⟨L, hn⟩ : ∃ L, L = l.length := ⟨_, rfl⟩
  rw [← hn] at hx hl0 hxB ⊢
  have HN : Hid (L = l.length) := hn
  have HX : Hid (∀ W, Below B w W → Els encM 5 W (.slice a L ca) l) := hxB
  have HI : Hid (∀ m ∈ l, MdI m) := hm
  have HM : Hid (MapE w X n ks f) := hX
  have hXl := hX.lt
  have HBW : Hid (B ≤ w.heap.size) := Nat.le_of_lt (Nat.lt_of_le_of_lt hB hXl)
  clear hn hx hm hX hxB
  go_enter Try.func31, Try.ntmps31
  go_wp2_with fail
  go_loopw [8] (fun i wr => ∃ k : Nat, i = .int .i64 (k : Nat) ∧ k ≤ L ∧ Hid (MapE wr X (n + k) (ks ++ (l.take k).map Md.k) (layF f (l.take k))) ∧ Hid (Below B w wr)) (fun i _ => L - (intOf i).toNat)
  case atStart => exact ⟨0, rfl, Nat.zero_le _, by simpa [layF, Hid] using HM.out, Below.refl _ _⟩
  case round =>
    obtain ⟨k, rfl, hk, HMk, HB⟩ := hrel
    by_cases hlt : k < L
    · obtain ⟨b, off, rfl, hb, hc⟩ := (HX.out wr HB.out).md (by omega)
      obtain ⟨mh, mp, ms, mg, mu, hkk⟩ := md_at (xs := l) (j := k) (by rw [← HN.out]; exact hlt)
      obtain ⟨c0, c1, c2, c3, c4⟩ := hc k _ hkk
      have HF : Hid (layF f (l.take (k + 1)) = putF (layF f (l.take k)) (mh, mp) (ms, mg, mu)) := layF_snoc hkk
      have HKS : Hid (ks ++ (l.take (k + 1)).map Md.k = (ks ++ (l.take k).map Md.k) ++ [(mh, mp)]) := by unfold Hid; rw [mapk_snoc hkk, List.append_assoc]; rfl
      have HKI : Hid (KI (mh, mp)) := ⟨(HI.out _ (List.mem_of_getElem? hkk)).1, (HI.out _ (List.mem_of_getElem? hkk)).2.1⟩
      clear hc hb hkk
      have hW : Below wr.heap.size wr (wr.alloc (.cells #[.int .i64 mh, .int .i64 mp, .int .i64 ms, .int .i64 mg, .int .u32 (mu : Nat)] 41)) := (Below.refl _ _).alloc (Nat.le_refl _) _
      obtain ⟨d0, d1, d2, d3, d4⟩ := new_five wr (.int .i64 mh) (.int .i64 mp) (.int .i64 ms) (.int .i64 mg) (.int .u32 (mu : Nat)) 41
      obtain ⟨w2, hup, hm2, hg2⟩ := (HMk.out.kept hW).put (by omega) HKI.out (ms, mg, mu)
      have HB2 : Hid (Below B w w2) := (HB.out.trans (hW.mono (Nat.le_trans HBW.out HB.out.size))).grown hg2 (by have := HB.out.size; have := hW.size; have := HBW.out; omega) (fun j hj => by cases hj; exact hB)
      have HM2 : Hid (MapE w2 X (n + (k + 1)) (ks ++ (l.take (k + 1)).map Md.k) (layF f (l.take (k + 1)))) := by rw [HF.out, HKS.out]; exact hm2
      simp only at hup
      clear hm2 hg2 hW HF HKS HKI HMk HB
      go_wp2_with fail
      go_roundw
      case rel => exact ⟨k + 1, by go_num, by omega, HM2.out, HB2.out⟩
      case measure => simp [intOf]; omega
    · have hkL : k = L := by omega
      have HE : Hid (MapE wr X (n + L) (ks ++ l.map Md.k) (layF f l)) := by
        have := HMk.out
        rw [hkL, List.take_of_length_le (by rw [HN.out]; exact Nat.le_refl _)] at this
        exact this
      go_wp2
      go_end0
      exact ⟨rfl, HE.out, HB.out⟩

/-! ### Find -/
theorem cells3' {w : World} {X : Nat} {a b c : Value} {T : TypeId} (h : w.heap[X]? = some (.cells #[a, b, c] T (0, 0))) : (w.cell? ⟨X, 0, none⟩ = some a ∧ w.cell? ⟨X, 1, none⟩ = some b ∧ w.cell? ⟨X, 2, none⟩ = some c) ∧ ∀ i, w.frozen? ⟨X, i, none⟩ = false := by
  refine ⟨⟨?_, ?_, ?_⟩, fun i => ?_⟩ <;> simp [World.cell?, World.frozen?, h]
set_option maxRecDepth 20000 in
set_option maxHeartbeats 2000000 in
theorem find11_any (w : World) (x : Value) (l : List Md) (h p : Int) (hx : Els encM 5 w x l) :
    Calls Try.prog 15 #[x, .agg #[.int .i64 h, .int .i64 p]] w fun e w' => e = .returned (.tuple #[entV (findM l (h, p)), .bool (findM l (h, p)).isSome]) ∧ Below w.heap.size w w' := by
  obtain ⟨a, ca, rfl⟩ := hx.shape
  have hl : l.length ≤ 9223372036854775807 := by have := hx.1; unfold maxLen at this; omega
  obtain ⟨n, hn⟩ : ∃ n, n = l.length := ⟨_, rfl⟩
  rw [← hn] at hx hl ⊢
  have HN : Hid (n = l.length) := hn
  have HX : Hid (Els encM 5 w (.slice a n ca) l) := hx
  clear hn hx
  go_enter Try.func15, Try.ntmps15
  go_wp2_with fail
  obtain ⟨W0, hW⟩ : ∃ W0, W0 = (w.alloc (.cells #[.int .i64 h, .int .i64 p] 36)).alloc (.cells #[.int .i64 0, .int .i64 0, .int .u32 0] 39) := ⟨_, rfl⟩
  have hs : (w.alloc (.cells #[.int .i64 h, .int .i64 p] 36)).heap.size = w.heap.size + 1 := by simp
  have HB0 : Hid (Below w.heap.size w W0) := by rw [hW]; exact ((Below.refl _ _).alloc (Nat.le_refl _) _).alloc (by simp) _
  have HG0 : Hid (W0.heap[w.heap.size]? = some (.cells #[.int .i64 h, .int .i64 p] 36 (0, 0))) := by
    rw [hW]
    exact (((Below.refl _ _).alloc (Nat.le_refl _) _ : Below _ (w.alloc (.cells #[.int .i64 h, .int .i64 p] 36)) _).block w.heap.size (by simp)).trans (heap_alloc_new w _)
  have HG1 : Hid (W0.heap[w.heap.size + 1]? = some (.cells #[.int .i64 0, .int .i64 0, .int .u32 0] 39 (0, 0))) := by
    have := heap_alloc_new (w.alloc (.cells #[.int .i64 h, .int .i64 p] 36)) (.cells #[.int .i64 0, .int .i64 0, .int .u32 0] 39)
    rw [hs] at this
    rw [hW]; exact this
  rw [← hW]
  clear hW hs
  obtain ⟨P, hP⟩ : ∃ P, P = w.heap.size := ⟨_, rfl⟩
  have HP : Hid (P = w.heap.size) := hP
  rw [← hP] at HG0 HG1
  try rw [← hP]
  have HS : Hid (P + 1 < W0.heap.size) := lt_of_heap HG1.out
  clear hP
  go_loopw [10] (fun i wr => ∃ k : Nat, i = .int .i64 (k : Nat) ∧ k ≤ n ∧ Hid (findM (l.take k) (h, p) = none) ∧ Hid (Below W0.heap.size W0 wr)) (fun i _ => n - (intOf i).toNat)
  case atStart => exact ⟨0, rfl, Nat.zero_le _, rfl, Below.refl _ _⟩
  case round =>
    obtain ⟨k, rfl, hk, HT, HB⟩ := hrel
    have HBw : Hid (Below P w wr) := by rw [HP.out]; exact HB0.out.trans (HB.out.mono HB0.out.size)
    by_cases hlt : k < n
    · obtain ⟨b, off, rfl, hb, hc⟩ := (HX.out.kept (by rw [← HP.out]; exact HBw.out)).md (by omega)
      obtain ⟨h', p', s', u', v', hkk⟩ := md_at (xs := l) (j := k) (by rw [← HN.out]; exact hlt)
      obtain ⟨c0, c1, c2, c3, c4⟩ := hc k _ hkk
      have HNO : Hid ((h', p') ≠ (h, p) → findM (l.take (k + 1)) (h, p) = none) := fun hne => findM_snoc_no hkk HT.out hne
      have HIT : Hid ((h', p') = (h, p) → findM l (h, p) = some (s', u', v')) := fun he => findM_hit hkk HT.out he
      clear hc hb hkk HT
      simp only at c0 c1 c2 c3 c4
      have hW : Below wr.heap.size wr (wr.alloc (.cells #[.int .i64 h', .int .i64 p', .int .i64 s', .int .i64 u', .int .u32 (v' : Nat)] 41)) := (Below.refl _ _).alloc (Nat.le_refl _) _
      have HB1 : Hid (Below W0.heap.size W0 (wr.alloc (.cells #[.int .i64 h', .int .i64 p', .int .i64 s', .int .i64 u', .int .u32 (v' : Nat)] 41))) := HB.out.trans (hW.mono HB.out.size)
      obtain ⟨d0, d1, d2, d3, d4⟩ := new_five wr (.int .i64 h') (.int .i64 p') (.int .i64 s') (.int .i64 u') (.int .u32 (v' : Nat)) 41
      obtain ⟨e0, e1⟩ := cells2' ((HB1.out.block P (by have := HS.out; omega)).trans HG0.out)
      have HG2 := (HB1.out.block (P + 1) HS.out).trans HG1.out
      obtain ⟨⟨t0, t1, t2⟩, tf⟩ := cells3' HG2
      have f0 := tf 0
      have f1 := tf 1
      have f2 := tf 2
      have HBP : Hid (Below P w (wr.alloc (.cells #[.int .i64 h', .int .i64 p', .int .i64 s', .int .i64 u', .int .u32 (v' : Nat)] 41))) := HBw.out.trans (hW.mono HBw.out.size |> fun q => q.mono (by have := HBw.out.size; rw [HP.out]; exact Nat.le_refl _))
      clear hW HG2 tf
      by_cases q1 : h' = h
      · by_cases q2 : p' = p
        · subst q1 q2
          have HE : Hid (findM l (h', p') = some (s', u', v')) := HIT.out rfl
          clear HIT HNO
          go_wp2
          refine bodyPost_ret (v := .tuple #[.agg #[.int .i64 _, .int .i64 _, .int .u32 _], .bool _]) (results_cell2 rfl rfl rfl (load_ent (set_three _ _ _ t0 t1 t2).1 (set_three _ _ _ t0 t1 t2).2.1 (set_three _ _ _ t0 t1 t2).2.2)) rfl ⟨by rw [HE.out]; rfl, ?_⟩
          rw [← HP.out]
          exact ((HBP.out.setCell (Nat.le_succ _) _).setCell (Nat.le_succ _) _).setCell (Nat.le_succ _) _
        · have HT2 : Hid (findM (l.take (k + 1)) (h, p) = none) := HNO.out (fun e => q2 (by cases e; rfl))
          have hne : (p' == p) = false := by simpa using q2
          clear HIT HNO
          subst q1
          go_wp2
          go_roundw
          case rel => exact ⟨k + 1, by go_num, by omega, HT2, HB1.out⟩
          case measure => simp [intOf]; omega
      · have HT2 : Hid (findM (l.take (k + 1)) (h, p) = none) := HNO.out (fun e => q1 (by cases e; rfl))
        have hne : (h' == h) = false := by simpa using q1
        clear HIT HNO
        go_wp2
        go_roundw
        case rel => exact ⟨k + 1, by go_num, by omega, HT2, HB1.out⟩
        case measure => simp [intOf]; omega
    · have HE : Hid (findM l (h, p) = none) := by
        have h1 := HT.out
        rwa [List.take_of_length_le (by rw [← HN.out]; omega)] at h1
      have HG2 := (HB.out.block (P + 1) HS.out).trans HG1.out
      obtain ⟨⟨t0, t1, t2⟩, tf⟩ := cells3' HG2
      have f0 := tf 0
      have f1 := tf 1
      have f2 := tf 2
      clear HG2 tf
      go_wp2
      refine bodyPost_ret (v := .tuple #[.agg #[.int .i64 _, .int .i64 _, .int .u32 _], .bool _]) (results_cell2 rfl rfl rfl (load_ent (set_three _ _ _ t0 t1 t2).1 (set_three _ _ _ t0 t1 t2).2.1 (set_three _ _ _ t0 t1 t2).2.2)) rfl ⟨by rw [HE.out]; rfl, ?_⟩
      rw [← HP.out]
      exact ((HBw.out.setCell (Nat.le_succ _) _).setCell (Nat.le_succ _) _).setCell (Nat.le_succ _) _
end Go.Proofs.Ytfclhehpbniapaa
