/- Some texts of mine, one behind the other (joined by program). -/
import Derived.Test.YthhdkadjlddmkaaDoorDiskW
import Derived.Test.YthhdkadjlddmkaaDoorCut6
import Derived.Test.YthhdkadjlddmkaaDoorWalkRefPut6
import Derived.Test.YthhdkadjlddmkaaDoorWalkSum
import Derived.BigQuiet

/- A journal in plain numbers: its ring, what an append writes, what a crash leaves, what is scanned. -/
namespace Go.Proofs.YthhdkadjlddmkaaDoor
open Go.RowKit
set_option linter.unusedVariables false

/-! ### Places in a ring -/
theorem mod_wrap {n c i : Nat} (hc : c < n) (hi : i < n) : (c + i) % n = if c + i < n then c + i else c + i - n := by
  split
  · exact Nat.mod_eq_of_lt (by assumption)
  · rw [Nat.mod_eq_sub_mod (by omega)]; exact Nat.mod_eq_of_lt (by omega)
theorem mod_inj {n c i j : Nat} (hc : c < n) (hi : i < n) (hj : j < n) (h : (c + i) % n = (c + j) % n) : i = j := by
  rw [mod_wrap hc hi, mod_wrap hc hj] at h
  split at h <;> split at h <;> omega
theorem mod_onto {n c x : Nat} (hc : c < n) (hx : x < n) : ∃ i, i < n ∧ (c + i) % n = x := by
  by_cases h : c ≤ x
  · exact ⟨x - c, by omega, by rw [show c + (x - c) = x by omega]; exact Nat.mod_eq_of_lt hx⟩
  · refine ⟨x + n - c, by omega, ?_⟩
    rw [show c + (x + n - c) = x + n by omega, Nat.add_mod_right]; exact Nat.mod_eq_of_lt hx
/-- The ring from a place on. -/
def ringF (f : Nat → Sec) (fr n start : Nat) (i : Nat) : Sec := f (fr + (start + i) % n)
theorem ringF_shift (f : Nat → Sec) (fr n start T i : Nat) : ringF f fr n ((start + T) % n) i = ringF f fr n start (T + i) := by
  unfold ringF
  rw [Nat.mod_add_mod, Nat.add_assoc]
theorem secsN_add (f : Nat → Sec) (a m k : Nat) : secsN f a (m + k) = secsN f a m ++ secsN f (a + m) k := by
  induction k with
  | zero => simp [secsN]
  | succ k ih => rw [← Nat.add_assoc, secsN_succ, ih, secsN_succ, List.append_assoc, Nat.add_assoc]
theorem secsN_congr {f g : Nat → Sec} {a b m : Nat} (h : ∀ i, i < m → f (a + i) = g (b + i)) : secsN f a m = secsN g b m := by
  induction m with
  | zero => rfl
  | succ m ih => rw [secsN_succ, secsN_succ, ih fun i hi => h i (by omega), h m (by omega)]
theorem secsN_at (f : Nat → Sec) (a m i : Nat) (h : i < m) (R : List Nat) : secAt6 (secsN f a m ++ R) i = (f (a + i)).l := by
  obtain ⟨k, rfl⟩ : ∃ k, m = i + (1 + k) := ⟨m - i - 1, by omega⟩
  rw [secsN_add, secsN_add, List.append_assoc, List.append_assoc]
  have e1 : secsN f (a + i) 1 = (f (a + i)).l := by simp [secsN]
  rw [e1]
  exact take_drop_mid _ _ _ _ _ (secsN_length _ _ _) (f (a + i)).len
theorem secsN_at' (f : Nat → Sec) (a m i : Nat) (h : i < m) : secAt6 (secsN f a m) i = (f (a + i)).l := by
  have := secsN_at f a m i h []
  rwa [List.append_nil] at this
/-- What was read of the ring, turned to a place. -/
theorem ring_read (f : Nat → Sec) (fr n start : Nat) (h : start < n) : (secsN f fr n).drop (128 * start) ++ (secsN f fr n).take (128 * start) = secsN (ringF f fr n start) 0 n := by
  obtain ⟨k, rfl⟩ : ∃ k, n = start + k := ⟨n - start, by omega⟩
  rw [secsN_add, List.drop_append_of_le_length (by rw [secsN_length]; omega), List.drop_of_length_le (by rw [secsN_length]; omega), List.nil_append,
    List.take_append_of_le_length (by rw [secsN_length]; omega), List.take_of_length_le (by rw [secsN_length]; omega), Nat.add_comm start k, secsN_add (ringF f fr (k + start) start)]
  congr 1
  · refine secsN_congr fun i hi => ?_
    unfold ringF
    rw [Nat.zero_add, Nat.mod_eq_of_lt (by omega)]
    congr 1; omega
  · refine secsN_congr fun i hi => ?_
    unfold ringF
    rw [Nat.zero_add, show start + (k + i) = i + (k + start) by omega, Nat.add_mod_right, Nat.mod_eq_of_lt (by omega)]

/-! ### Writes at places that are no two the same -/
theorem applyW_map (f : Nat → Sec) (p : Nat → Nat) (q : Nat → Sec) (m : Nat) (hp : ∀ i j, i < m → j < m → p i = p j → i = j) :
    ∀ a, a ≤ m → (∀ i, i < a → applyW f ((List.range a).map fun i => (p i, q i)) (p i) = q i) ∧ (∀ x, (∀ i, i < a → p i ≠ x) → applyW f ((List.range a).map fun i => (p i, q i)) x = f x)
  | 0, _ => ⟨fun i hi => by omega, fun x _ => rfl⟩
  | a + 1, ha => by
    obtain ⟨h1, h2⟩ := applyW_map f p q m hp a (by omega)
    rw [List.range_succ, List.map_append]
    rw [show List.map (fun i => (p i, q i)) [a] = [(p a, q a)] from rfl, applyW_snoc]
    refine ⟨fun i hi => ?_, fun x hx => ?_⟩
    · unfold upd
      by_cases e : i = a
      · subst e; rw [if_pos rfl]
      · rw [if_neg fun h => e (hp i a (by omega) (by omega) h)]; exact h1 i (by omega)
    · unfold upd
      rw [if_neg fun h => hx a (by omega) h.symm]
      exact h2 x fun i hi => hx i (by omega)
/-- What a crash leaves of a sector of which one write waits. -/
def Mix (old new s : Sec) : Prop := s = old ∨ s = new ∨ ∃ c, 0 < c ∧ c < 128 ∧ s = tear old new c
theorem crashTo_map (zs : List Int) (torn cut : Int) (f : Nat → Sec) (p : Nat → Nat) (q : Nat → Sec) (m : Nat) (hp : ∀ i j, i < m → j < m → p i = p j → i = j) :
    ∀ a, a ≤ m → (∀ i, i < a → Mix (f (p i)) (q i) (crashTo zs torn cut f ((List.range m).map fun i => (p i, q i)) a (p i))) ∧ (∀ x, (∀ i, i < a → p i ≠ x) → crashTo zs torn cut f ((List.range m).map fun i => (p i, q i)) a x = f x)
  | 0, _ => ⟨fun i hi => by omega, fun x _ => rfl⟩
  | a + 1, ha => by
    obtain ⟨h1, h2⟩ := crashTo_map zs torn cut f p q m hp a (by omega)
    have hat : ((List.range m).map fun i => (p i, q i))[a]? = some (p a, q a) := by simp [show a < m by omega]
    have hold : crashTo zs torn cut f ((List.range m).map fun i => (p i, q i)) a (p a) = f (p a) := h2 (p a) fun i hi e => by have := hp i a (by omega) (by omega) e; omega
    have e1 : crashTo zs torn cut f ((List.range m).map fun i => (p i, q i)) (a + 1) = crashStep zs torn cut (crashTo zs torn cut f ((List.range m).map fun i => (p i, q i)) a) a (p a, q a) := by
      show (match ((List.range m).map fun i => (p i, q i))[a]? with | some p => _ | none => _) = _
      rw [hat]
    have e2 : ∀ x, x ≠ p a → crashTo zs torn cut f ((List.range m).map fun i => (p i, q i)) (a + 1) x = crashTo zs torn cut f ((List.range m).map fun i => (p i, q i)) a x := fun x hx => by
      rw [e1]
      unfold crashStep upd
      split
      · exact if_neg hx
      · split
        · exact if_neg hx
        · rfl
    have e3 : Mix (f (p a)) (q a) (crashTo zs torn cut f ((List.range m).map fun i => (p i, q i)) (a + 1) (p a)) := by
      rw [e1]
      unfold crashStep upd
      split
      · exact .inr (.inl (if_pos rfl))
      · split
        · rename_i h
          exact .inr (.inr ⟨cut.toNat, by omega, by omega, (if_pos rfl).trans (by rw [hold])⟩)
        · exact .inl hold
    refine ⟨fun i hi => ?_, fun x hx => ?_⟩
    · by_cases e : i = a
      · subst e; exact e3
      · rw [e2 (p i) fun h => e (hp i a (by omega) (by omega) h)]; exact h1 i (by omega)
    · rw [e2 x fun h => hx a (by omega) h.symm]
      exact h2 x fun i hi => hx i (by omega)

/-! ### The epoch that a sector tells -/
theorem numAt_cons (a b c d e : Nat) (r : List Nat) (hb : b < 256) (hc : c < 256) (hd : d < 256) (he : e < 256) : numAt (a :: b :: c :: d :: e :: r) 1 = ((b + 256 * c + 65536 * d + 16777216 * e : Nat) : Int) := by
  show getO [b, c, d, e] = _
  simp [getO, getI, getN, wrap64]
  omega
theorem five {l : List Nat} (h : l.length = 128) : ∃ a b c d e r, l = a :: b :: c :: d :: e :: r := by
  match l, h with
  | a :: b :: c :: d :: e :: r, _ => exact ⟨a, b, c, d, e, r, rfl⟩
theorem num_tear (old new : Sec) (c : Nat) (hc : 0 < c) (e : Int) (h1 : numAt old.l 1 ≤ e) (h2 : numAt new.l 1 = e) : numAt (tear old new c).l 1 ≤ e := by
  obtain ⟨a0, a1, a2, a3, a4, ar, ha⟩ := five old.len
  obtain ⟨b0, b1, b2, b3, b4, br, hb⟩ := five new.len
  have ho := old.oct
  have hn := new.oct
  show numAt (new.l.take c ++ old.l.drop c) 1 ≤ e
  rw [ha] at h1 ho ⊢
  rw [hb] at h2 hn ⊢
  simp only [List.mem_cons, forall_eq_or_imp] at ho hn
  rw [numAt_cons _ _ _ _ _ _ ho.2.1 ho.2.2.1 ho.2.2.2.1 ho.2.2.2.2.1] at h1
  rw [numAt_cons _ _ _ _ _ _ hn.2.1 hn.2.2.1 hn.2.2.2.1 hn.2.2.2.2.1] at h2
  match c, hc with
  | 1, _ => show numAt (b0 :: a1 :: a2 :: a3 :: a4 :: ar) 1 ≤ e; rw [numAt_cons _ _ _ _ _ _ ho.2.1 ho.2.2.1 ho.2.2.2.1 ho.2.2.2.2.1]; exact h1
  | 2, _ => show numAt (b0 :: b1 :: a2 :: a3 :: a4 :: ar) 1 ≤ e; rw [numAt_cons _ _ _ _ _ _ hn.2.1 ho.2.2.1 ho.2.2.2.1 ho.2.2.2.2.1]; omega
  | 3, _ => show numAt (b0 :: b1 :: b2 :: a3 :: a4 :: ar) 1 ≤ e; rw [numAt_cons _ _ _ _ _ _ hn.2.1 hn.2.2.1 ho.2.2.2.1 ho.2.2.2.2.1]; omega
  | 4, _ => show numAt (b0 :: b1 :: b2 :: b3 :: a4 :: ar) 1 ≤ e; rw [numAt_cons _ _ _ _ _ _ hn.2.1 hn.2.2.1 hn.2.2.2.1 ho.2.2.2.2.1]; omega
  | c + 5, _ =>
    show numAt (b0 :: b1 :: b2 :: b3 :: b4 :: (br.take c ++ ar.drop c)) 1 ≤ e
    rw [numAt_cons _ _ _ _ _ _ hn.2.1 hn.2.2.1 hn.2.2.2.1 hn.2.2.2.2.1]; omega
theorem num_mix {old new s : Sec} (h : Mix old new s) (e : Int) (h1 : numAt old.l 1 ≤ e) (h2 : numAt new.l 1 = e) : numAt s.l 1 ≤ e := by
  rcases h with rfl | rfl | ⟨c, h3, h4, rfl⟩
  · exact h1
  · omega
  · exact num_tear old new c h3 e h1 h2
/-- A sector that tells an epoch, and whose octets are those of a part torn, is no foot. -/
theorem foot_mix {old new s : Sec} (h : Mix old new s) (e : Int) (h1 : numAt old.l 1 ≠ e) (h2 : (readP new.l).foot = false) (he : numAt s.l 1 = e) : (readP s.l).foot = false := by
  rcases h with rfl | rfl | ⟨c, h3, h4, rfl⟩
  · exact absurd he h1
  · exact h2
  · obtain ⟨b0, b1, b2, b3, b4, br, hb⟩ := five new.len
    have h2' : decide (new.l[0]?.getD 0 = 70) = false := h2
    have h5 : (tear old new c).l[0]?.getD 0 = new.l[0]?.getD 0 := by
      show (new.l.take c ++ old.l.drop c)[0]?.getD 0 = _
      rw [hb]
      match c, h3 with
      | c + 1, _ => rfl
    show decide ((tear old new c).l[0]?.getD 0 = 70) = false
    rw [decide_eq_false_iff_not] at h2' ⊢
    rw [h5]
    exact h2'
theorem fit_num {e n : Int} {i : Nat} {zs : List Nat} (h : fitP e n i (getP zs) = true) : numAt zs 1 = e ∧ footP (getP zs) = (readP zs).foot := by
  cases hg : getP zs with
  | none => rw [hg] at h; cases h
  | some q =>
    rw [hg] at h
    have h' : (decide (q.epoch = e) && (decide (q.number = n) && decide (q.index = (i : Nat)))) = true := h
    simp only [Bool.and_eq_true, decide_eq_true_eq] at h'
    have hq := (getP_some hg).2.2.1
    refine ⟨?_, ?_⟩
    · rw [← h'.1, hq]; rfl
    · show q.foot = _; rw [hq]
/-- Where no sector of that epoch is a foot, nothing is joined. -/
theorem join_noFoot (b : List Nat) (e n : Int) (h : ∀ i, 128 * i + 128 ≤ b.length → numAt (secAt6 b i) 1 = e → (readP (secAt6 b i)).foot = false) : joinS b e n = none := by
  have key : ∀ f i p, joinL b e n f i p = none := by
    intro f
    induction f with
    | zero => intro i p; rfl
    | succ f ih =>
      intro i p
      show (if 128 * i + 128 ≤ b.length then _ else none) = none
      split
      · rename_i hb
        split
        · rename_i hf
          obtain ⟨h1, h2⟩ := fit_num hf
          rw [if_neg (by rw [h2, h i hb h1]; decide)]
          exact ih _ _
        · rfl
      · rfl
  exact key _ _ _
/-- Behind all its parts: what stands where its foot would be decides. -/
theorem join_tail {e n : Int} (hid : okId e n = true) (zs : List Nat) (hl : zs.length ≤ 65000) (b : List Nat) (hsec : ∀ j, j < partsN zs.length → secAt6 b j = sect6 (partOf e n zs j)) (hb : 128 * partsN zs.length ≤ b.length)
    (hbe : ∀ i, partsN zs.length < i → 128 * i + 128 ≤ b.length → numAt (secAt6 b i) 1 ≠ e) : joinS b e n = none ∨ (joinS b e n = some (zs, partsN zs.length + 1) ∧ cutS e n zs = b.take (128 * (partsN zs.length + 1)) ∧ 0 < sectorsN zs.length) := by
  have hp65 : partsN zs.length ≤ 65535 := by unfold partsN; omega
  have key : ∀ j f, j ≤ partsN zs.length → joinL b e n (f + (partsN zs.length - j)) j (zs.take (112 * j)) = joinL b e n f (partsN zs.length) zs := by
    intro j f hj
    induction hd : partsN zs.length - j generalizing j with
    | zero => rw [show j = partsN zs.length by omega, Nat.add_zero, List.take_of_length_le (by unfold partsN; omega)]
    | succ d ih =>
      have hg := getP_sect _ (partOf_ok hid zs j (by omega))
      rw [← ih (j + 1) (by omega) (by omega), ← take_data]
      show (if 128 * j + 128 ≤ b.length then _ else none) = _
      rw [if_pos (by omega), hsec j (by omega), hg]
      have h1 : fitP e n j (some (partOf e n zs j)) = true := by simp [fitP, partOf]
      have h2 : ¬ footP (some (partOf e n zs j)) = true := by simp [footP, partOf]
      rw [if_pos h1, if_neg h2]
      rfl
  unfold joinS
  rw [show b.length / 128 + 1 = (b.length / 128 - partsN zs.length + 1) + (partsN zs.length - 0) by omega]
  have := key 0 (b.length / 128 - partsN zs.length + 1) (Nat.zero_le _)
  rw [Nat.mul_zero, List.take_zero] at this
  rw [this]
  generalize b.length / 128 - partsN zs.length = f
  have e1 : joinL b e n (f + 1) (partsN zs.length) zs = (if 128 * partsN zs.length + 128 ≤ b.length then
      (if fitP e n (partsN zs.length) (getP (secAt6 b (partsN zs.length))) = true then
        (if footP (getP (secAt6 b (partsN zs.length))) = true then (if 0 < sectorsN zs.length ∧ cutS e n zs = b.take (128 * partsN zs.length + 128) then some (zs, partsN zs.length + 1) else none)
         else joinL b e n f (partsN zs.length + 1) (zs ++ dataP (getP (secAt6 b (partsN zs.length)))))
       else none)
    else none) := rfl
  rw [e1]
  split
  · split
    · split
      · split
        · rename_i hc
          exact .inr ⟨rfl, by rw [hc.2, show 128 * (partsN zs.length + 1) = 128 * partsN zs.length + 128 by omega], hc.1⟩
        · exact .inl rfl
      · left
        cases f with
        | zero => rfl
        | succ f =>
          show (if 128 * (partsN zs.length + 1) + 128 ≤ b.length then _ else none) = none
          split
          · rename_i h1
            split
            · rename_i h2
              exact absurd (fit_num h2).1 (hbe _ (by omega) h1)
            · rfl
          · rfl
    · exact .inl rfl
  · exact .inl rfl
end Go.Proofs.YthhdkadjlddmkaaDoor

/- A journal in plain numbers: what its calls do to it and to the disk, and what holds between them. -/
namespace Go.Proofs.YthhdkadjlddmkaaDoor
open Go.RowKit
set_option linter.unusedVariables false

structure JS where
  fr : Nat
  n : Nat
  epoch : Nat
  place : Nat
  count : Nat
  used : Nat
  dead : Bool
  dirty : Bool
def JS.fresh (fr n e start : Nat) : JS := ⟨fr, n, e, start, 0, 0, false, false⟩
/-- Writes of sectors lo to lo + a - 1 of a transaction, from the place on. -/
def wrL (J : JS) (b : List Nat) (lo a : Nat) : List Wr := (List.range a).map fun i => (J.fr + (J.place + (lo + i)) % J.n, secAt b (lo + i))
theorem wrL_zero (J : JS) (b : List Nat) (lo : Nat) : wrL J b lo 0 = [] := rfl
theorem wrL_app (J : JS) (b : List Nat) (lo a k : Nat) : wrL J b lo a ++ wrL J b (lo + a) k = wrL J b lo (a + k) := by
  unfold wrL
  rw [List.range_add, List.map_append, List.map_map]
  congr 1
  refine List.map_congr_left fun i _ => ?_
  show _ = (J.fr + (J.place + (lo + (a + i))) % J.n, secAt b (lo + (a + i)))
  rw [Nat.add_assoc]
def putW (S : St) (J : JS) (b : List Nat) (lo a : Nat) : St := { S with waits := S.waits ++ wrL J b lo a, written := S.written + a }
def tick (S : St) (k : St → St × Bool) : St × Bool := if S.left = 0 then (S, false) else k S.spent
def footR (J : JS) (b : List Nat) (P : Nat) (s : St) : St × Bool := tick s fun s => tick s.flushed fun s => tick (putW s J b P 1) fun s => (s.flushed, true)
def appendD (S : St) (J : JS) (b : List Nat) (P : Nat) : St × Bool :=
  if P ≤ J.n - J.place then tick S fun s => footR J b P (putW s J b 0 P)
  else tick S fun s => tick (putW s J b 0 (J.n - J.place)) fun s => footR J b P (putW s J b (J.n - J.place) (P - (J.n - J.place)))
def JS.bytes (J : JS) (zs : List Nat) : List Nat := cutS (J.epoch : Nat) (J.count : Nat) zs
def JS.after (J : JS) (k : Nat) : JS := { J with count := J.count + 1, used := J.used + k, place := (J.place + k) % J.n }
def JS.died (J : JS) : JS := { J with dead := true }
def appendR (S : St) (J : JS) (zs : List Nat) : St × JS × Nat :=
  if J.dead = true then (S, J, 10) else if J.dirty = true then (S, J, 19) else if ¬ (1 ≤ zs.length ∧ zs.length ≤ 65000) then (S, J, 2) else if J.n - J.used < partsN zs.length + 1 then (S, J, 11)
  else if (appendD S J (J.bytes zs) (partsN zs.length)).2 = true then ((appendD S J (J.bytes zs) (partsN zs.length)).1, J.after (partsN zs.length + 1), 0) else ((appendD S J (J.bytes zs) (partsN zs.length)).1, J.died, 10)
def resetR (J : JS) : JS × Nat :=
  if J.dead = true then (J, 10) else if J.epoch = 2147483648 then (J, 2) else ({ J with epoch := J.epoch + 1, count := 0, used := 0, dirty := false }, 0)

/-! ### What an append leaves of the disk -/
theorem spent_safe (S : St) : S.spent.safe = S.safe ∧ S.spent.waits = S.waits ∧ S.spent.n = S.n ∧ S.spent.written = S.written := ⟨rfl, rfl, rfl, rfl⟩
theorem spent_left {S : St} (h : S.left < 0) : S.spent.left = S.left := by
  show (if 0 < S.left then S.left - 1 else S.left) = S.left
  rw [if_neg (by omega)]
/-- Where an append may stop. -/
structure Stops (S : St) (J : JS) (b : List Nat) (P : Nat) (r : St × Bool) : Prop where
  n : r.1.n = S.n
  written : r.1.written ≤ S.written + P + 1
  ok : r.2 = true → r.1.waits = [] ∧ r.1.safe = applyW S.safe (wrL J b 0 (P + 1))
  no : r.2 = false → (∃ a, a ≤ P ∧ r.1.waits = wrL J b 0 a ∧ r.1.safe = S.safe) ∨ (r.1.safe = applyW S.safe (wrL J b 0 P) ∧ (r.1.waits = [] ∨ r.1.waits = wrL J b P 1))
theorem applyW_app (f : Nat → Sec) (a b : List Wr) : applyW f (a ++ b) = applyW (applyW f a) b := by simp [applyW]
theorem footR_stops (S : St) (J : JS) (b : List Nat) (P : Nat) (s : St) (h1 : s.n = S.n) (h2 : s.written = S.written + P) (h3 : s.waits = wrL J b 0 P) (h4 : s.safe = S.safe) : Stops S J b P (footR J b P s) := by
  have hfl : s.spent.flushed.safe = applyW S.safe (wrL J b 0 P) := by
    show applyW s.safe s.waits = _
    rw [h3, h4]
  unfold footR tick
  split
  · exact ⟨h1, by rw [h2]; exact Nat.le_succ _, fun h => (by cases h), fun _ => .inl ⟨P, Nat.le_refl _, h3, h4⟩⟩
  · dsimp only
    split
    · exact ⟨h1, by show s.written ≤ _; rw [h2]; exact Nat.le_succ _, fun h => (by cases h), fun _ => .inr ⟨hfl, .inl rfl⟩⟩
    · split
      · refine ⟨h1, by show s.written + 1 ≤ _; rw [h2]; exact Nat.le_refl _, fun h => (by cases h), fun _ => .inr ⟨hfl, .inr ?_⟩⟩
        show [] ++ wrL J b P 1 = _
        rfl
      · refine ⟨h1, by show s.written + 1 ≤ _; rw [h2]; exact Nat.le_refl _, fun _ => ⟨rfl, ?_⟩, fun h => (by cases h)⟩
        show applyW s.spent.flushed.safe ([] ++ wrL J b P 1) = _
        rw [hfl, List.nil_append, ← applyW_app]
        congr 1
        have := wrL_app J b 0 P 1
        rwa [Nat.zero_add] at this
theorem appendD_stops (S : St) (J : JS) (b : List Nat) (P : Nat) (hw : S.waits = []) : Stops S J b P (appendD S J b P) := by
  unfold appendD
  split
  · unfold tick
    split
    · exact ⟨rfl, by show S.written ≤ _; omega, fun h => (by cases h), fun _ => .inl ⟨0, Nat.zero_le _, hw, rfl⟩⟩
    · refine footR_stops S J b P _ rfl rfl ?_ rfl
      show S.waits ++ wrL J b 0 P = _
      rw [hw, List.nil_append]
  · rename_i hP
    unfold tick
    split
    · exact ⟨rfl, by show S.written ≤ _; omega, fun h => (by cases h), fun _ => .inl ⟨0, Nat.zero_le _, hw, rfl⟩⟩
    · have e1 : S.waits ++ wrL J b 0 (J.n - J.place) = wrL J b 0 (J.n - J.place) := by rw [hw, List.nil_append]
      dsimp only
      split
      · exact ⟨rfl, by show S.written + (J.n - J.place) ≤ _; omega, fun h => (by cases h), fun _ => .inl ⟨J.n - J.place, by omega, e1, rfl⟩⟩
      · refine footR_stops S J b P _ rfl (by show S.written + (J.n - J.place) + (P - (J.n - J.place)) = _; omega) ?_ rfl
        show (S.waits ++ wrL J b 0 (J.n - J.place)) ++ wrL J b (J.n - J.place) (P - (J.n - J.place)) = _
        rw [e1]
        have := wrL_app J b 0 (J.n - J.place) (P - (J.n - J.place))
        rw [Nat.zero_add, show J.n - J.place + (P - (J.n - J.place)) = P by omega] at this
        exact this
/-- With the power on nothing stops it. -/
theorem tick_on {S : St} {k : St → St × Bool} (h : S.left < 0) : tick S k = k S.spent := if_neg (by omega)
theorem footR_on {J : JS} {b : List Nat} {P : Nat} {s : St} (h : s.left < 0) : (footR J b P s).2 = true ∧ (footR J b P s).1.left = s.left := by
  have h1 : s.spent.flushed.left < 0 := by show s.spent.left < 0; rw [spent_left h]; exact h
  have h2 : (putW s.spent.flushed.spent J b P 1).left < 0 := by show s.spent.flushed.spent.left < 0; rw [spent_left h1]; exact h1
  unfold footR
  rw [tick_on h, tick_on h1, tick_on h2]
  refine ⟨rfl, ?_⟩
  show (putW s.spent.flushed.spent J b P 1).spent.left = _
  rw [spent_left h2]
  show s.spent.flushed.spent.left = _
  rw [spent_left h1]
  exact spent_left h
theorem appendD_on {S : St} {J : JS} {b : List Nat} {P : Nat} (h : S.left < 0) : (appendD S J b P).2 = true ∧ (appendD S J b P).1.left = S.left := by
  have h1 : S.spent.left < 0 := by rw [spent_left h]; exact h
  unfold appendD
  split
  · rw [tick_on h]
    have := footR_on (J := J) (b := b) (P := P) (s := putW S.spent J b 0 P) h1
    exact ⟨this.1, this.2.trans (spent_left h)⟩
  · rw [tick_on h]
    have h2 : (putW S.spent J b 0 (J.n - J.place)).left < 0 := h1
    rw [tick_on h2]
    have h3 : (putW (putW S.spent J b 0 (J.n - J.place)).spent J b (J.n - J.place) (P - (J.n - J.place))).left < 0 := by
      show (putW S.spent J b 0 (J.n - J.place)).spent.left < 0
      rw [spent_left h2]; exact h1
    have := footR_on (J := J) (b := b) (P := P) h3
    exact ⟨this.1, this.2.trans ((spent_left h2).trans (spent_left h))⟩

/-! ### What is scanned -/
def sumT : List (List Nat) → Nat
  | [] => 0
  | p :: r => (partsN p.length + 1) + sumT r
theorem sumT_app (a b : List (List Nat)) : sumT (a ++ b) = sumT a + sumT b := by
  induction a with
  | nil => simp [sumT]
  | cons p r ih => simp only [List.cons_append, sumT, ih]; omega
def Pays (ps : List (List Nat)) : Prop := ∀ p ∈ ps, (1 ≤ p.length ∧ p.length ≤ 65000) ∧ ∀ z ∈ p, z < 256
theorem sumT_two {ps : List (List Nat)} (h : Pays ps) : 2 * ps.length ≤ sumT ps := by
  induction ps with
  | nil => exact Nat.le_refl _
  | cons p r ih =>
    have h1 := (h p (List.mem_cons_self ..)).1
    have h2 := ih fun q hq => h q (List.mem_cons_of_mem _ hq)
    simp only [sumT, List.length_cons]
    have : 1 ≤ partsN p.length := by unfold partsN; omega
    omega
def cutsFrom (e : Int) : Nat → List (List Nat) → List Nat
  | _, [] => []
  | c, p :: r => cutS e (c : Nat) p ++ cutsFrom e (c + 1) r
theorem cutsFrom_app (e : Int) : ∀ (a : List (List Nat)) (c : Nat) (b : List (List Nat)), cutsFrom e c (a ++ b) = cutsFrom e c a ++ cutsFrom e (c + a.length) b
  | [], c, b => rfl
  | p :: r, c, b => by
    rw [List.cons_append, cutsFrom, cutsFrom, cutsFrom_app e r (c + 1) b, List.append_assoc, List.length_cons]
    congr 3
    omega
theorem cutsFrom_length (e : Int) : ∀ (ps : List (List Nat)) (c : Nat), (cutsFrom e c ps).length = 128 * sumT ps
  | [], c => rfl
  | p :: r, c => by rw [cutsFrom, List.length_append, cutS_length, cutsFrom_length e r (c + 1), sumT]; omega
def scanL (e : Int) : Nat → Nat → List Nat → List (List Nat)
  | 0, _, _ => []
  | f + 1, c, s => match joinS s e (c : Nat) with
    | none => []
    | some (p, k) => p :: scanL e f (c + 1) (s.drop (128 * k))
theorem okId_nat {e c : Nat} (h1 : 1 ≤ e) (h2 : e ≤ 2147483648) (h3 : c ≤ 2147483648) : okId (e : Nat) (c : Nat) = true := okId_right.2 ⟨⟨by omega, by omega⟩, by omega, by omega⟩
theorem scan_sure {e : Nat} (h1 : 1 ≤ e) (h2 : e ≤ 2147483648) (rest : List Nat) : ∀ (ps : List (List Nat)) (c f : Nat), Pays ps → c + ps.length ≤ 2147483648 → joinS rest (e : Nat) ((c + ps.length : Nat) : Int) = none → ps.length < f →
    scanL (e : Nat) f c (cutsFrom (e : Nat) c ps ++ rest) = ps
  | [], c, f, hp, hc, hj, hf => by
    obtain ⟨f, rfl⟩ : ∃ g, f = g + 1 := ⟨f - 1, by simp at hf; omega⟩
    rw [List.length_nil, Nat.add_zero] at hj
    simp only [cutsFrom, List.nil_append, scanL, hj]
  | p :: r, c, f, hp, hc, hj, hf => by
    obtain ⟨f, rfl⟩ : ∃ g, f = g + 1 := ⟨f - 1, by simp at hf; omega⟩
    have hp1 := (hp p (List.mem_cons_self ..)).1
    rw [List.length_cons] at hc hf hj
    have hjc : joinS (cutsFrom (e : Nat) c (p :: r) ++ rest) (e : Nat) (c : Nat) = some (p, partsN p.length + 1) := by
      rw [cutsFrom, List.append_assoc]
      exact join_cut (okId_nat h1 h2 (by omega)) p hp1.1 hp1.2 _
    have hd : (cutsFrom (e : Nat) c (p :: r) ++ rest).drop (128 * (partsN p.length + 1)) = cutsFrom (e : Nat) (c + 1) r ++ rest := by
      rw [cutsFrom, List.append_assoc, List.drop_append_of_le_length (by rw [cutS_length]; omega), List.drop_of_length_le (by rw [cutS_length]; omega), List.nil_append]
    rw [scanL, hjc]
    show p :: scanL (e : Nat) f (c + 1) ((cutsFrom (e : Nat) c (p :: r) ++ rest).drop (128 * (partsN p.length + 1))) = _
    rw [hd, scan_sure h1 h2 rest r (c + 1) f (fun q hq => hp q (List.mem_cons_of_mem _ hq)) (by omega) (by rw [← hj]; congr 2; omega) (by omega)]
/-- What is joined has the sectors that it ought to have. -/
theorem joinL_k (b : List Nat) (e n : Int) : ∀ (f i : Nat) (q p : List Nat) (k : Nat), joinL b e n f i q = some (p, k) → k = partsN p.length + 1 ∧ (1 ≤ p.length ∧ p.length ≤ 65000) ∧ 128 * k ≤ b.length := by
  intro f
  induction f with
  | zero => intro i q p k h; cases h
  | succ f ih =>
    intro i q p k h
    have h' : (if 128 * i + 128 ≤ b.length then
      (if fitP e n i (getP (secAt6 b i)) = true then
        (if footP (getP (secAt6 b i)) = true then (if 0 < sectorsN q.length ∧ cutS e n q = b.take (128 * i + 128) then some (q, i + 1) else none)
         else joinL b e n f (i + 1) (q ++ dataP (getP (secAt6 b i))))
       else none)
    else none) = some (p, k) := h
    split at h'
    · rename_i hb
      split at h'
      · split at h'
        · split at h'
          · rename_i hc
            simp only [Option.some.injEq, Prod.mk.injEq] at h'
            obtain ⟨rfl, rfl⟩ := h'
            have := congrArg List.length hc.2
            rw [cutS_length, List.length_take] at this
            exact ⟨by omega, sectorsN_pos hc.1, by omega⟩
          · cases h'
        · exact ih _ _ _ _ h'
      · cases h'
    · cases h'
theorem joinS_k {b : List Nat} {e n : Int} {p : List Nat} {k : Nat} (h : joinS b e n = some (p, k)) : k = partsN p.length + 1 ∧ (1 ≤ p.length ∧ p.length ≤ 65000) ∧ 128 * k ≤ b.length := joinL_k b e n _ _ _ _ _ h

/-! ### What holds between calls -/
/-- The ring's sectors behind those used. -/
def restO (f : Nat → Sec) (fr n start u : Nat) : List Nat := secsN (ringF f fr n start) u (n - u)
theorem restO_length (f : Nat → Sec) (fr n start u : Nat) : (restO f fr n start u).length = 128 * (n - u) := secsN_length _ _ _
theorem restO_at (f : Nat → Sec) (fr n start u i : Nat) (h : i < n - u) : secAt6 (restO f fr n start u) i = (ringF f fr n start (u + i)).l := secsN_at' _ _ _ _ h
def dirtyR (f : Nat → Sec) (fr n start u e : Nat) : Bool := (List.range (n - u)).any fun i => decide (numAt (ringF f fr n start (u + i)).l 1 = (e : Nat))
theorem dirtyR_no {f : Nat → Sec} {fr n start u e : Nat} (h : dirtyR f fr n start u e = false) : ∀ i, u ≤ i → i < n → numAt (ringF f fr n start i).l 1 ≠ (e : Nat) := fun i h1 h2 he => by
  have : dirtyR f fr n start u e = true := List.any_eq_true.2 ⟨i - u, List.mem_range.2 (by omega), decide_eq_true (by rw [show u + (i - u) = i by omega]; exact he)⟩
  rw [h] at this
  cases this
def openPs (f : Nat → Sec) (fr n e start : Nat) : List (List Nat) := scanL (e : Nat) (n + 1) 0 (secsN (ringF f fr n start) 0 n)
def openJ (f : Nat → Sec) (fr n e start : Nat) : JS :=
  ⟨fr, n, e, (start + sumT (openPs f fr n e start)) % n, (openPs f fr n e start).length, sumT (openPs f fr n e start), false, dirtyR f fr n start (sumT (openPs f fr n e start)) e⟩
/-- Of the ring: what is sure stands from the start on. -/
structure Ring (f : Nat → Sec) (J : JS) (start : Nat) (sure : List (List Nat)) : Prop where
  n1 : 4 ≤ J.n
  n2 : J.n ≤ 4096
  st : start < J.n
  e1 : 1 ≤ J.epoch
  e2 : J.epoch ≤ 2147483648
  pays : Pays sure
  used : J.used = sumT sure
  room : J.used ≤ J.n
  count : J.count = sure.length
  place : J.place = (start + J.used) % J.n
  sure : secsN (ringF f J.fr J.n start) 0 J.used = cutsFrom (J.epoch : Nat) 0 sure
  le : ∀ i, i < J.n → numAt (ringF f J.fr J.n start i).l 1 ≤ (J.epoch : Nat)
/-- No sector behind those used tells the epoch. -/
def Clean (f : Nat → Sec) (J : JS) (start u : Nat) : Prop := ∀ i, u ≤ i → i < J.n → numAt (ringF f J.fr J.n start i).l 1 ≠ (J.epoch : Nat)
structure JInv (S : St) (J : JS) (start : Nat) (sure : List (List Nat)) (under : List Nat) : Prop where
  ring : Ring S.safe J start sure
  fit : J.fr + J.n ≤ S.n
  alive : J.dead = false → S.waits = [] ∧ under = [] ∧ joinS (restO S.safe J.fr J.n start J.used) (J.epoch : Nat) (J.count : Nat) = none ∧ (J.dirty = false → Clean S.safe J start J.used)
  gone : J.dead = true → ((1 ≤ under.length ∧ under.length ≤ 65000) ∧ ∀ z ∈ under, z < 256) ∧ partsN under.length + 1 ≤ J.n - J.used ∧
    ((Clean S.safe J start J.used ∧ ∃ a, a ≤ partsN under.length ∧ S.waits = wrL J (J.bytes under) 0 a) ∨
     ((∀ i, i < partsN under.length → ringF S.safe J.fr J.n start (J.used + i) = secAt (J.bytes under) i) ∧ Clean S.safe J start (J.used + partsN under.length) ∧ (S.waits = [] ∨ S.waits = wrL J (J.bytes under) (partsN under.length) 1)))
theorem Ring.count_le {f : Nat → Sec} {J : JS} {start : Nat} {sure : List (List Nat)} (h : Ring f J start sure) : J.count ≤ 4096 := by
  have h1 := sumT_two h.pays
  have h2 := h.used
  have h3 := h.room
  have h4 := h.n2
  have h5 := h.count
  omega
theorem Ring.ok {f : Nat → Sec} {J : JS} {start : Nat} {sure : List (List Nat)} (h : Ring f J start sure) : okId (J.epoch : Nat) (J.count : Nat) = true := okId_nat h.e1 h.e2 (by have := h.count_le; omega)
theorem Ring.place_lt {f : Nat → Sec} {J : JS} {start : Nat} {sure : List (List Nat)} (h : Ring f J start sure) : J.place < J.n := by
  rw [h.place]; exact Nat.mod_lt _ (by have := h.n1; omega)
/-- The sectors from the place on are the ring's behind those used. -/
theorem Ring.at {f : Nat → Sec} {J : JS} {start : Nat} {sure : List (List Nat)} (h : Ring f J start sure) (g : Nat → Sec) (i : Nat) : ringF g J.fr J.n start (J.used + i) = g (J.fr + (J.place + i) % J.n) := by
  rw [← ringF_shift, ← h.place]; rfl
/-- Two places of the ring are no two the same. -/
theorem Ring.apart {f : Nat → Sec} {J : JS} {start : Nat} {sure : List (List Nat)} (h : Ring f J start sure) {i j : Nat} (hi : i < J.n) (hj : j < J.n) (hne : i ≠ j) : J.fr + (start + i) % J.n ≠ J.fr + (start + j) % J.n := fun e => hne (mod_inj h.st hi hj (by omega))
/-- Sectors of a transaction. -/
theorem JS.bytes_length (J : JS) (zs : List Nat) : (J.bytes zs).length = 128 * (partsN zs.length + 1) := cutS_length _ _ _
theorem JS.sec_part (J : JS) (zs : List Nat) (hz : ∀ z ∈ zs, z < 256) (i : Nat) (hi : i < partsN zs.length) : (secAt (J.bytes zs) i).l = sect6 (partOf (J.epoch : Nat) (J.count : Nat) zs i) := by
  rw [secAt_l (zs := J.bytes zs) (by rw [J.bytes_length]; omega) (cutS_small hz _ _)]
  have := cutS_at (J.epoch : Nat) (J.count : Nat) zs i [] hi
  rwa [List.append_nil] at this
theorem JS.sec_foot (J : JS) (zs : List Nat) (hz : ∀ z ∈ zs, z < 256) : (secAt (J.bytes zs) (partsN zs.length)).l = sect6 (footOf (J.epoch : Nat) (J.count : Nat) zs) := by
  rw [secAt_l (zs := J.bytes zs) (by rw [J.bytes_length]; omega) (cutS_small hz _ _)]
  have := cutS_foot (J.epoch : Nat) (J.count : Nat) zs []
  rwa [List.append_nil] at this
/-- All of them tell the epoch. -/
theorem JS.sec_num {J : JS} {zs : List Nat} (hid : okId (J.epoch : Nat) (J.count : Nat) = true) (hz : ∀ z ∈ zs, z < 256) (hl : zs.length ≤ 65000) (i : Nat) (hi : i ≤ partsN zs.length) : numAt (secAt (J.bytes zs) i).l 1 = (J.epoch : Nat) := by
  have hp : partsN zs.length ≤ 65535 := by unfold partsN; omega
  by_cases h : i < partsN zs.length
  · rw [J.sec_part zs hz i h]
    have := readP_sect _ (partOf_ok hid zs i (by omega))
    exact congrArg Part.epoch this
  · rw [show i = partsN zs.length by omega, J.sec_foot zs hz]
    have := readP_sect _ (footOf_ok hid zs hl)
    exact congrArg Part.epoch this
theorem JS.sec_nofoot {J : JS} {zs : List Nat} (hid : okId (J.epoch : Nat) (J.count : Nat) = true) (hz : ∀ z ∈ zs, z < 256) (hl : zs.length ≤ 65000) (i : Nat) (hi : i < partsN zs.length) : (readP (secAt (J.bytes zs) i).l).foot = false := by
  have hp : partsN zs.length ≤ 65535 := by unfold partsN; omega
  rw [J.sec_part zs hz i hi, readP_sect _ (partOf_ok hid zs i (by omega))]
  rfl
theorem join_clean (b : List Nat) (e n : Int) (h : ∀ i, 128 * i + 128 ≤ b.length → numAt (secAt6 b i) 1 ≠ e) : joinS b e n = none := join_noFoot b e n fun i hi he => absurd he (h i hi)
theorem rest_clean {f : Nat → Sec} {J : JS} {start u : Nat} (h : Clean f J start u) (c : Int) : joinS (restO f J.fr J.n start u) (J.epoch : Nat) c = none :=
  join_clean _ _ _ fun i hi => by
    rw [restO_length] at hi
    rw [restO_at _ _ _ _ _ _ (by omega)]
    exact h _ (by omega) (by omega)
end Go.Proofs.YthhdkadjlddmkaaDoor

/- What holds between a journal's calls: it does hold, behind appends, resets, and crashes. -/
namespace Go.Proofs.YthhdkadjlddmkaaDoor
open Go.RowKit
set_option linter.unusedVariables false

/-- Writes from the place on, applied: the ring. -/
theorem Ring.applied {f : Nat → Sec} {J : JS} {start : Nat} {sure : List (List Nat)} (h : Ring f J start sure) (b : List Nat) (a : Nat) (ha : a ≤ J.n - J.used) :
    (∀ i, i < a → ringF (applyW f (wrL J b 0 a)) J.fr J.n start (J.used + i) = secAt b i) ∧ (∀ i, i < J.n → (i < J.used ∨ J.used + a ≤ i) → ringF (applyW f (wrL J b 0 a)) J.fr J.n start i = ringF f J.fr J.n start i) := by
  have hpl := h.place_lt
  have hinj : ∀ i j, i < a → j < a → J.fr + (J.place + (0 + i)) % J.n = J.fr + (J.place + (0 + j)) % J.n → i = j := fun i j hi hj e => mod_inj hpl (by omega) (by omega) (by rw [Nat.zero_add, Nat.zero_add] at e; omega)
  obtain ⟨h1, h2⟩ := applyW_map f (fun i => J.fr + (J.place + (0 + i)) % J.n) (fun i => secAt b (0 + i)) a hinj a (Nat.le_refl _)
  refine ⟨fun i hi => ?_, fun i hi hc => ?_⟩
  · rw [h.at]
    have := h1 i hi
    simp only [Nat.zero_add] at this
    unfold wrL
    simp only [Nat.zero_add]
    exact this
  · refine h2 _ fun j hj e => ?_
    have e1 : J.fr + (J.place + j) % J.n = J.fr + (start + (J.used + j)) % J.n := by rw [h.place, Nat.mod_add_mod, Nat.add_assoc]
    rw [Nat.zero_add, e1] at e
    exact h.apart (i := J.used + j) (j := i) (by omega) hi (by omega) e
/-- A crash upon writes from the place on: the ring. -/
theorem Ring.crashed {f : Nat → Sec} {J : JS} {start : Nat} {sure : List (List Nat)} (h : Ring f J start sure) (b : List Nat) (lo a : Nat) (ha : lo + a ≤ J.n - J.used) (zs : List Int) (torn cut : Int) :
    (∀ i, i < a → Mix (ringF f J.fr J.n start (J.used + (lo + i))) (secAt b (lo + i)) (ringF (crashTo zs torn cut f (wrL J b lo a) a) J.fr J.n start (J.used + (lo + i)))) ∧
    (∀ i, i < J.n → (i < J.used + lo ∨ J.used + lo + a ≤ i) → ringF (crashTo zs torn cut f (wrL J b lo a) a) J.fr J.n start i = ringF f J.fr J.n start i) := by
  have hpl := h.place_lt
  have hinj : ∀ i j, i < a → j < a → J.fr + (J.place + (lo + i)) % J.n = J.fr + (J.place + (lo + j)) % J.n → i = j := fun i j hi hj e => by
    have := mod_inj hpl (i := lo + i) (j := lo + j) (by omega) (by omega) (by omega)
    omega
  obtain ⟨h1, h2⟩ := crashTo_map zs torn cut f (fun i => J.fr + (J.place + (lo + i)) % J.n) (fun i => secAt b (lo + i)) a hinj a (Nat.le_refl _)
  refine ⟨fun i hi => ?_, fun i hi hc => ?_⟩
  · rw [h.at, h.at]
    exact h1 i hi
  · refine h2 _ fun j hj e => ?_
    have e1 : J.fr + (J.place + (lo + j)) % J.n = J.fr + (start + (J.used + (lo + j))) % J.n := by rw [h.place, Nat.mod_add_mod, Nat.add_assoc]
    rw [e1] at e
    exact h.apart (i := J.used + (lo + j)) (j := i) (by omega) hi (by omega) e
/-- The ring's octets up to the end of a transaction that stands behind what is sure. -/
theorem Ring.longer {f g : Nat → Sec} {J : JS} {start : Nat} {sure : List (List Nat)} (h : Ring f J start sure) (zs : List Nat) (hz : (1 ≤ zs.length ∧ zs.length ≤ 65000) ∧ ∀ z ∈ zs, z < 256) (hr : partsN zs.length + 1 ≤ J.n - J.used)
    (h1 : ∀ i, i < J.used → ringF g J.fr J.n start i = ringF f J.fr J.n start i) (h2 : ∀ i, i < partsN zs.length + 1 → (ringF g J.fr J.n start (J.used + i)).l = (secAt (J.bytes zs) i).l) (h3 : ∀ i, i < J.n → numAt (ringF g J.fr J.n start i).l 1 ≤ (J.epoch : Nat)) :
    Ring g (J.after (partsN zs.length + 1)) start (sure ++ [zs]) where
  n1 := h.n1
  n2 := h.n2
  st := h.st
  e1 := h.e1
  e2 := h.e2
  pays p hp := by
    rcases List.mem_append.1 hp with hp | hp
    · exact h.pays p hp
    · rw [List.mem_singleton] at hp; subst hp; exact hz
  used := by
    show J.used + (partsN zs.length + 1) = sumT (sure ++ [zs])
    rw [sumT_app, h.used]
    rfl
  room := by have := h.room; show J.used + (partsN zs.length + 1) ≤ J.n; omega
  count := by show J.count + 1 = _; rw [h.count, List.length_append]; rfl
  place := by
    show (J.place + (partsN zs.length + 1)) % J.n = (start + (J.used + (partsN zs.length + 1))) % J.n
    rw [h.place, Nat.mod_add_mod, Nat.add_assoc]
  sure := by
    show secsN (ringF g J.fr J.n start) 0 (J.used + (partsN zs.length + 1)) = _
    rw [cutsFrom_app, secsN_add, secsN_congr (g := ringF f J.fr J.n start) (b := 0) fun i hi => by rw [Nat.zero_add]; exact h1 i hi, h.sure]
    congr 1
    show secsN (ringF g J.fr J.n start) (0 + J.used) (partsN zs.length + 1) = cutS (J.epoch : Nat) ((0 + sure.length : Nat) : Int) zs ++ []
    rw [Nat.zero_add, Nat.zero_add, List.append_nil, ← h.count]
    show _ = J.bytes zs
    have hb : ∀ k, k ≤ partsN zs.length + 1 → secsN (ringF g J.fr J.n start) J.used k = (J.bytes zs).take (128 * k) := by
      intro k hk
      induction k with
      | zero => rfl
      | succ k ih =>
        rw [secsN_succ, ih (by omega), h2 k (by omega), secAt_l (zs := J.bytes zs) (by rw [J.bytes_length]; omega) (cutS_small hz.2 _ _), show 128 * (k + 1) = 128 * k + 128 by omega, List.take_add]
    rw [hb _ (Nat.le_refl _), List.take_of_length_le (by rw [J.bytes_length]; omega)]
  le := h3
/-- The ring turned where nothing of what is sure lies. -/
theorem Ring.turn {f g : Nat → Sec} {J J' : JS} {start : Nat} {sure : List (List Nat)} (h : Ring f J start sure) (h1 : ∀ i, i < J.used → ringF g J.fr J.n start i = ringF f J.fr J.n start i) (h3 : ∀ i, i < J.n → numAt (ringF g J.fr J.n start i).l 1 ≤ (J.epoch : Nat))
    (e1 : J'.fr = J.fr) (e2 : J'.n = J.n) (e3 : J'.epoch = J.epoch) (e4 : J'.place = J.place) (e5 : J'.count = J.count) (e6 : J'.used = J.used) : Ring g J' start sure where
  n1 := by rw [e2]; exact h.n1
  n2 := by rw [e2]; exact h.n2
  st := by rw [e2]; exact h.st
  e1 := by rw [e3]; exact h.e1
  e2 := by rw [e3]; exact h.e2
  pays := h.pays
  used := by rw [e6]; exact h.used
  room := by rw [e6, e2]; exact h.room
  count := by rw [e5]; exact h.count
  place := by rw [e4, e6, e2]; exact h.place
  sure := by
    rw [e1, e2, e3, e6, secsN_congr (g := ringF f J.fr J.n start) (b := 0) fun i hi => by rw [Nat.zero_add]; exact h1 i hi]
    exact h.sure
  le := by rw [e1, e2, e3]; exact h3
/-- What Open finds of such a ring. -/
theorem Ring.opened {f : Nat → Sec} {J : JS} {start : Nat} {sure : List (List Nat)} (h : Ring f J start sure) (hj : joinS (restO f J.fr J.n start J.used) (J.epoch : Nat) (J.count : Nat) = none) : openPs f J.fr J.n J.epoch start = sure := by
  have h1 : secsN (ringF f J.fr J.n start) 0 J.n = cutsFrom (J.epoch : Nat) 0 sure ++ restO f J.fr J.n start J.used := by
    rw [← h.sure]
    unfold restO
    have := secsN_add (ringF f J.fr J.n start) 0 J.used (J.n - J.used)
    rw [Nat.zero_add, show J.used + (J.n - J.used) = J.n by have := h.room; omega] at this
    exact this
  unfold openPs
  rw [h1]
  have h2 := sumT_two h.pays
  have h3 := h.used
  have h4 := h.room
  have h5 := h.n2
  refine scan_sure h.e1 h.e2 _ sure 0 (J.n + 1) h.pays (by omega) ?_ (by omega)
  rw [Nat.zero_add, ← h.count]
  exact hj
theorem Ring.openJ {f : Nat → Sec} {J : JS} {start : Nat} {sure : List (List Nat)} (h : Ring f J start sure) (hj : joinS (restO f J.fr J.n start J.used) (J.epoch : Nat) (J.count : Nat) = none) :
    Go.Proofs.YthhdkadjlddmkaaDoor.openJ f J.fr J.n J.epoch start = { J with dead := false, dirty := dirtyR f J.fr J.n start J.used J.epoch } := by
  unfold Go.Proofs.YthhdkadjlddmkaaDoor.openJ
  rw [h.opened hj, ← h.used, ← h.count, ← h.place]
theorem JInv.settle {S : St} {J : JS} {start : Nat} {sure : List (List Nat)} (h : Ring S.safe J start sure) (hf : J.fr + J.n ≤ S.n) (hw : S.waits = []) (hj : joinS (restO S.safe J.fr J.n start J.used) (J.epoch : Nat) (J.count : Nat) = none) :
    openPs S.safe J.fr J.n J.epoch start = sure ∧ JInv S (openJ S.safe J.fr J.n J.epoch start) start sure [] := by
  refine ⟨h.opened hj, ?_⟩
  rw [h.openJ hj]
  refine ⟨h.turn (fun _ _ => rfl) h.le rfl rfl rfl rfl rfl rfl, hf, fun _ => ⟨hw, rfl, hj, fun hd => dirtyR_no hd⟩, fun hd => by cases hd⟩

/-! ### The acts -/
theorem numAt_zero : numAt Sec.zero.l 1 = 0 := by decide +kernel
theorem JInv.new (n fr m e start : Nat) (h1 : 4 ≤ m) (h2 : m ≤ 4096) (h3 : fr + m ≤ n) (h4 : 1 ≤ e) (h5 : e ≤ 2147483648) (h6 : start < m) : JInv (freshSt n) (JS.fresh fr m e start) start [] [] := by
  have hz : ∀ i, numAt (ringF (freshSt n).safe fr m start i).l 1 = 0 := fun i => numAt_zero
  have hc : Clean (freshSt n).safe (JS.fresh fr m e start) start 0 := fun i _ _ => by
    show numAt (ringF (freshSt n).safe fr m start i).l 1 ≠ (e : Nat)
    rw [hz]; omega
  refine ⟨⟨h1, h2, h6, h4, h5, fun p hp => (by cases hp), rfl, Nat.zero_le _, rfl, ?_, rfl, fun i _ => ?_⟩, h3, fun _ => ⟨rfl, rfl, rest_clean hc _, fun _ => hc⟩, fun hd => by cases hd⟩
  · show start = (start + 0) % m
    rw [Nat.add_zero, Nat.mod_eq_of_lt h6]
  · show numAt (ringF (freshSt n).safe fr m start i).l 1 ≤ (e : Nat)
    rw [hz]; omega
theorem JInv.left {S : St} {J : JS} {start : Nat} {sure : List (List Nat)} {under : List Nat} (h : JInv S J start sure under) (l : Int) (wr : Nat) : JInv { S with left := l, written := wr } J start sure under := ⟨h.ring, h.fit, h.alive, h.gone⟩
theorem JInv.reset {S : St} {J : JS} {start : Nat} {sure : List (List Nat)} {under : List Nat} (h : JInv S J start sure under) (hd : J.dead = false) (he : J.epoch ≠ 2147483648) : JInv S (resetR J).1 J.place [] [] ∧ (resetR J).2 = 0 := by
  have hr : resetR J = ({ J with epoch := J.epoch + 1, count := 0, used := 0, dirty := false }, 0) := by
    unfold resetR
    rw [if_neg (by rw [hd]; decide), if_neg he]
  rw [hr]
  have hpl := h.ring.place_lt
  have hle : ∀ i, i < J.n → numAt (ringF S.safe J.fr J.n J.place i).l 1 ≤ (J.epoch : Nat) := fun i hi => by
    have e1 : ringF S.safe J.fr J.n J.place i = ringF S.safe J.fr J.n start ((J.used + i) % J.n) := by
      rw [h.ring.place, ringF_shift]
      unfold ringF
      rw [Nat.add_mod_mod]
    rw [e1]
    exact h.ring.le _ (Nat.mod_lt _ (by omega))
  have hc : Clean S.safe { J with epoch := J.epoch + 1, count := 0, used := 0, dirty := false } J.place 0 := fun i _ hi => by
    have := hle i hi
    show numAt (ringF S.safe J.fr J.n J.place i).l 1 ≠ ((J.epoch + 1 : Nat) : Int)
    omega
  refine ⟨⟨⟨h.ring.n1, h.ring.n2, hpl, by show 1 ≤ J.epoch + 1; omega, by have := h.ring.e2; show J.epoch + 1 ≤ _; omega, fun p hp => (by cases hp), rfl, Nat.zero_le _, rfl, ?_, rfl, fun i hi => ?_⟩, h.fit, fun _ => ⟨(h.alive hd).1, rfl, rest_clean hc _, fun _ => hc⟩, fun hd' => ?_⟩, rfl⟩
  · show J.place = (J.place + 0) % J.n
    rw [Nat.add_zero, Nat.mod_eq_of_lt hpl]
  · have := hle i hi
    show numAt (ringF S.safe J.fr J.n J.place i).l 1 ≤ ((J.epoch + 1 : Nat) : Int)
    omega
  · have : J.dead = true := hd'
    rw [hd] at this
    cases this

/-- An append that was begun. -/
theorem JInv.append {S : St} {J : JS} {start : Nat} {sure : List (List Nat)} (h : JInv S J start sure []) (hd : J.dead = false) (hdy : J.dirty = false) (zs : List Nat) (hz : (1 ≤ zs.length ∧ zs.length ≤ 65000) ∧ ∀ z ∈ zs, z < 256) (hr : partsN zs.length + 1 ≤ J.n - J.used) :
    ((appendD S J (J.bytes zs) (partsN zs.length)).2 = true → JInv (appendD S J (J.bytes zs) (partsN zs.length)).1 (J.after (partsN zs.length + 1)) start (sure ++ [zs]) []) ∧
    ((appendD S J (J.bytes zs) (partsN zs.length)).2 = false → JInv (appendD S J (J.bytes zs) (partsN zs.length)).1 J.died start sure zs) := by
  obtain ⟨hw, -, hj, hcl⟩ := h.alive hd
  have hC := hcl hdy
  have hst := appendD_stops S J (J.bytes zs) (partsN zs.length) hw
  have hid := h.ring.ok
  generalize appendD S J (J.bytes zs) (partsN zs.length) = r at hst ⊢
  have hroom := h.ring.room
  constructor
  · intro hok
    obtain ⟨hw2, hs2⟩ := hst.ok hok
    obtain ⟨a1, a2⟩ := h.ring.applied (J.bytes zs) (partsN zs.length + 1) hr
    rw [← hs2] at a1 a2
    have hle : ∀ i, i < J.n → numAt (ringF r.1.safe J.fr J.n start i).l 1 ≤ (J.epoch : Nat) := fun i hi => by
      by_cases hc : J.used ≤ i ∧ i < J.used + (partsN zs.length + 1)
      · have := a1 (i - J.used) (by omega)
        rw [show J.used + (i - J.used) = i by omega] at this
        rw [this, JS.sec_num hid hz.2 hz.1.2 _ (by omega)]
        exact Int.le_refl _
      · rw [a2 i hi (by omega)]; exact h.ring.le i hi
    have hR : Ring r.1.safe (J.after (partsN zs.length + 1)) start (sure ++ [zs]) := h.ring.longer zs hz hr (fun i hi => a2 i (by omega) (.inl hi)) (fun i hi => by rw [a1 i hi]) hle
    have hC2 : Clean r.1.safe (J.after (partsN zs.length + 1)) start (J.after (partsN zs.length + 1)).used := fun i h1 h2 => by
      show numAt (ringF r.1.safe J.fr J.n start i).l 1 ≠ (J.epoch : Nat)
      have h1' : J.used + (partsN zs.length + 1) ≤ i := h1
      rw [a2 i h2 (.inr h1')]
      exact hC i (by omega) h2
    exact ⟨hR, by rw [hst.n]; exact h.fit, fun _ => ⟨hw2, rfl, rest_clean hC2 _, fun _ => hC2⟩, fun hd' => by have : J.dead = true := hd'; rw [hd] at this; cases this⟩
  · intro hno
    have hgone : ∀ (f : Nat → Sec), r.1.safe = f → (∀ i, i < J.n → (i < J.used ∨ J.used + partsN zs.length ≤ i) → ringF f J.fr J.n start i = ringF S.safe J.fr J.n start i) → (∀ i, i < J.n → numAt (ringF f J.fr J.n start i).l 1 ≤ (J.epoch : Nat)) → Ring r.1.safe J.died start sure := fun f hf g1 g2 => by
      rw [hf]
      exact h.ring.turn (fun i hi => g1 i (by omega) (.inl hi)) g2 rfl rfl rfl rfl rfl rfl
    rcases hst.no hno with ⟨a, ha, hwa, hsa⟩ | ⟨hsa, hwa⟩
    · refine ⟨hgone _ hsa (fun _ _ _ => rfl) h.ring.le, by rw [hst.n]; exact h.fit, fun hd' => (by cases hd'), fun _ => ⟨hz, hr, .inl ⟨?_, a, ha, hwa⟩⟩⟩
      rw [hsa]
      exact hC
    · obtain ⟨a1, a2⟩ := h.ring.applied (J.bytes zs) (partsN zs.length) (by omega)
      have hle : ∀ i, i < J.n → numAt (ringF (applyW S.safe (wrL J (J.bytes zs) 0 (partsN zs.length))) J.fr J.n start i).l 1 ≤ (J.epoch : Nat) := fun i hi => by
        by_cases hc : J.used ≤ i ∧ i < J.used + partsN zs.length
        · have := a1 (i - J.used) (by omega)
          rw [show J.used + (i - J.used) = i by omega] at this
          rw [this, JS.sec_num hid hz.2 hz.1.2 _ (by omega)]
          exact Int.le_refl _
        · rw [a2 i hi (by omega)]; exact h.ring.le i hi
      refine ⟨hgone _ hsa a2 hle, by rw [hst.n]; exact h.fit, fun hd' => (by cases hd'), fun _ => ⟨hz, hr, .inr ⟨fun i hi => ?_, fun i h1 h2 => ?_, hwa⟩⟩⟩
      · rw [hsa]; exact a1 i hi
      · rw [hsa]
        show numAt (ringF _ J.fr J.n start i).l 1 ≠ (J.epoch : Nat)
        have h1' : J.used + partsN zs.length ≤ i := h1
        rw [a2 i h2 (.inr h1')]
        exact hC i (by omega) h2

/-- Behind a crash Open yields what was sure, and perhaps what was under way. -/
theorem JInv.crash {S : St} {J : JS} {start : Nat} {sure : List (List Nat)} {under : List Nat} (h : JInv S J start sure under) (ks : List Int) (torn cut : Int) :
    ∃ ps, openPs (S.crashed ks torn cut).safe J.fr J.n J.epoch start = ps ∧ (ps = sure ∨ J.dead = true ∧ ps = sure ++ [under]) ∧ JInv (S.crashed ks torn cut) (openJ (S.crashed ks torn cut).safe J.fr J.n J.epoch start) start ps [] := by
  have hfit : J.fr + J.n ≤ (S.crashed ks torn cut).n := h.fit
  by_cases hd : J.dead = true
  · obtain ⟨hz, hr, hcase⟩ := h.gone hd
    have hid := h.ring.ok
    have hroom := h.ring.room
    rcases hcase with ⟨hC, a, ha, hwa⟩ | ⟨hparts, hC, hwa⟩
    · have hs : (S.crashed ks torn cut).safe = crashTo ks torn cut S.safe (wrL J (J.bytes under) 0 a) a := by
        show crashTo ks torn cut S.safe S.waits S.waits.length = _
        rw [hwa]
        congr 1
        unfold wrL
        rw [List.length_map, List.length_range]
      obtain ⟨m1, m2⟩ := h.ring.crashed (J.bytes under) 0 a (by omega) ks torn cut
      rw [← hs] at m1 m2
      have hle : ∀ i, i < J.n → numAt (ringF (S.crashed ks torn cut).safe J.fr J.n start i).l 1 ≤ (J.epoch : Nat) := fun i hi => by
        by_cases hc : J.used ≤ i ∧ i < J.used + a
        · have := m1 (i - J.used) (by omega)
          rw [Nat.zero_add, show J.used + (i - J.used) = i by omega] at this
          exact num_mix this _ (h.ring.le i hi) (JS.sec_num hid hz.2 hz.1.2 _ (by omega))
        · rw [m2 i hi (by omega)]; exact h.ring.le i hi
      have hR : Ring (S.crashed ks torn cut).safe J start sure := h.ring.turn (fun i hi => m2 i (by omega) (by omega)) hle rfl rfl rfl rfl rfl rfl
      have hj : joinS (restO (S.crashed ks torn cut).safe J.fr J.n start J.used) (J.epoch : Nat) (J.count : Nat) = none := by
        refine join_noFoot _ _ _ fun i hi he => ?_
        rw [restO_length] at hi
        rw [restO_at _ _ _ _ _ _ (by omega)] at he ⊢
        by_cases hc : i < a
        · have := m1 i hc
          rw [Nat.zero_add] at this
          exact foot_mix this _ (hC _ (by omega) (by omega)) (JS.sec_nofoot hid hz.2 hz.1.2 _ (by omega)) he
        · rw [m2 _ (by omega) (by omega)] at he
          exact absurd he (hC _ (by omega) (by omega))
      obtain ⟨g1, g2⟩ := JInv.settle hR hfit rfl hj
      exact ⟨sure, g1, .inl rfl, g2⟩
    · -- the parts stand; of the foot whatever was kept
      have hmix : (∀ i, i < J.n → i ≠ J.used + partsN under.length → ringF (S.crashed ks torn cut).safe J.fr J.n start i = ringF S.safe J.fr J.n start i) ∧
          Mix (ringF S.safe J.fr J.n start (J.used + partsN under.length)) (secAt (J.bytes under) (partsN under.length)) (ringF (S.crashed ks torn cut).safe J.fr J.n start (J.used + partsN under.length)) := by
        rcases hwa with hwa | hwa
        · have hs : (S.crashed ks torn cut).safe = S.safe := by
            show crashTo ks torn cut S.safe S.waits S.waits.length = _
            rw [hwa]; rfl
          rw [hs]
          exact ⟨fun _ _ _ => rfl, .inl rfl⟩
        · have hs : (S.crashed ks torn cut).safe = crashTo ks torn cut S.safe (wrL J (J.bytes under) (partsN under.length) 1) 1 := by
            show crashTo ks torn cut S.safe S.waits S.waits.length = _
            rw [hwa]; rfl
          obtain ⟨m1, m2⟩ := h.ring.crashed (J.bytes under) (partsN under.length) 1 (by omega) ks torn cut
          rw [← hs] at m1 m2
          exact ⟨fun i hi hne => m2 i hi (by omega), m1 0 (by decide)⟩
      obtain ⟨m2, m1⟩ := hmix
      have hle : ∀ i, i < J.n → numAt (ringF (S.crashed ks torn cut).safe J.fr J.n start i).l 1 ≤ (J.epoch : Nat) := fun i hi => by
        by_cases hc : i = J.used + partsN under.length
        · subst hc
          exact num_mix m1 _ (h.ring.le _ hi) (JS.sec_num hid hz.2 hz.1.2 _ (Nat.le_refl _))
        · rw [m2 i hi hc]; exact h.ring.le i hi
      have hR : Ring (S.crashed ks torn cut).safe J start sure := h.ring.turn (fun i hi => m2 i (by omega) (by omega)) hle rfl rfl rfl rfl rfl rfl
      have hsec : ∀ i, i < partsN under.length → secAt6 (restO (S.crashed ks torn cut).safe J.fr J.n start J.used) i = sect6 (partOf (J.epoch : Nat) (J.count : Nat) under i) := fun i hi => by
        rw [restO_at _ _ _ _ _ _ (by omega), m2 _ (by omega) (by omega), hparts i hi, J.sec_part under hz.2 i hi]
      rcases join_tail hid under hz.1.2 (restO (S.crashed ks torn cut).safe J.fr J.n start J.used) hsec (by rw [restO_length]; omega) (fun i h1 h2 => by
        rw [restO_length] at h2
        rw [restO_at _ _ _ _ _ _ (by omega), m2 _ (by omega) (by omega)]
        exact hC _ (by omega) (by omega)) with hj | ⟨-, hcut, -⟩
      · obtain ⟨g1, g2⟩ := JInv.settle hR hfit rfl hj
        exact ⟨sure, g1, .inl rfl, g2⟩
      · have hall : ∀ i, i < partsN under.length + 1 → (ringF (S.crashed ks torn cut).safe J.fr J.n start (J.used + i)).l = (secAt (J.bytes under) i).l := fun i hi => by
          rw [← restO_at _ _ _ _ _ _ (by omega : i < J.n - J.used), secAt_l (zs := J.bytes under) (by rw [J.bytes_length]; omega) (cutS_small hz.2 _ _)]
          show _ = List.take 128 (List.drop (128 * i) (cutS (J.epoch : Nat) (J.count : Nat) under))
          rw [hcut, List.drop_take, List.take_take, Nat.min_eq_left (by omega)]
          rfl
        have hR2 := hR.longer under hz hr (fun _ _ => rfl) hall hle
        have hC2 : Clean (S.crashed ks torn cut).safe (J.after (partsN under.length + 1)) start (J.after (partsN under.length + 1)).used := fun i h1 h2 => by
          have h1' : J.used + (partsN under.length + 1) ≤ i := h1
          show numAt (ringF (S.crashed ks torn cut).safe J.fr J.n start i).l 1 ≠ (J.epoch : Nat)
          rw [m2 i h2 (by omega)]
          exact hC i (by omega) h2
        obtain ⟨g1, g2⟩ := JInv.settle (J := J.after (partsN under.length + 1)) hR2 hfit rfl (rest_clean hC2 _)
        exact ⟨sure ++ [under], g1, .inr ⟨hd, rfl⟩, g2⟩
  · have hd' : J.dead = false := by simpa using hd
    obtain ⟨hw, hu, hj, hcl⟩ := h.alive hd'
    have hs : (S.crashed ks torn cut).safe = S.safe := by
      show crashTo ks torn cut S.safe S.waits S.waits.length = _
      rw [hw]; rfl
    have hR : Ring (S.crashed ks torn cut).safe J start sure := by rw [hs]; exact h.ring
    obtain ⟨g1, g2⟩ := JInv.settle hR hfit rfl (by rw [hs]; exact hj)
    exact ⟨sure, g1, .inl rfl, g2⟩
end Go.Proofs.YthhdkadjlddmkaaDoor

/- What the laws of layer 7 ask of the program's journal, as one bundle of contracts. -/
namespace Go.Proofs.YthhdkadjlddmkaaDoor
open Go.RowKit
set_option linter.unusedVariables false

theorem below_drewN7 (w : World) (n : Nat) : Below w.heap.size w (w.drewN n) := ⟨rfl, rfl, rfl, Nat.le_refl _, fun _ _ => rfl⟩
/-- A journal at block p over the disk at L; the blocks of K lie beside both. -/
def IsJ (Head : World → Nat → Nat → JS → Prop) (K : Nat → Prop) (w : World) (p : Nat) (L : Loc) (S : St) (J : JS) : Prop := Head w p L.b J ∧ IsDisk (fun k => K k ∨ k = p) w L S ∧ ¬ K p
/-- The table of check sums lies among the blocks of K. -/
def StepsK (K : Nat → Prop) (w : World) : Prop := ∀ w', Kept K w w' → Steps w'
theorem StepsK.here {K : Nat → Prop} {w : World} (h : StepsK K w) : Steps w := h w (Kept.refl _ _)
theorem StepsK.kept {K : Nat → Prop} {w w1 : World} (h : StepsK K w) (hk : Kept K w w1) : StepsK K w1 := fun w' h' => h w' (hk.trans h')
theorem StepsK.more {K K' : Nat → Prop} {w : World} (h : StepsK K w) (hk : ∀ k, K k → K' k) : StepsK K' w := fun w' h' => h w' (h'.mono hk)
theorem StepsK.below {w : World} (h : Steps w) : StepsK (fun k => k < w.heap.size) w := fun w' h' => h.below (h'.below fun _ hk => hk)
/-- A journal's numbers, as far as its calls ask. -/
structure JOk (S : St) (J : JS) : Prop where
  n1 : 4 ≤ J.n
  n2 : J.n ≤ 4096
  fit : J.fr + J.n ≤ S.n
  e1 : 1 ≤ J.epoch
  e2 : J.epoch ≤ 2147483648
  place : J.place < J.n
  used : J.used ≤ J.n
  count : J.count ≤ 4096
theorem JInv.ok {S : St} {J : JS} {start : Nat} {sure : List (List Nat)} {under : List Nat} (h : JInv S J start sure under) : JOk S J := ⟨h.ring.n1, h.ring.n2, h.fit, h.ring.e1, h.ring.e2, h.ring.place_lt, h.ring.room, h.ring.count_le⟩
def fitsB (J : JS) (m : Int) : Bool := decide (0 < sectorsN m ∧ sectorsN m ≤ ((J.n - J.used : Nat) : Int))

structure JOps where
  Head : World → Nat → Nat → JS → Prop
  same : ∀ {w w' : World} {p b : Nat} {J : JS}, Head w p b J → w'.heap[p]? = w.heap[p]? → Head w' p b J
  lt : ∀ {w : World} {p b : Nat} {J : JS}, Head w p b J → p < w.heap.size
  noOct : ∀ {w : World} {p b : Nat} {J : JS}, Head w p b J → NoOct w p
  new : ∀ (K : Nat → Prop) (w : World) (L : Loc) (S : St) (fr m e start : Nat), IsDisk K w L S → 4 ≤ m → m ≤ 4096 → fr + m ≤ S.n → 1 ≤ e → e ≤ 2147483648 → start < m →
    Calls Tryd.prog 9 #[.pointer (some ⟨L.b, 0, none⟩), .int .i64 (fr : Nat), .int .i64 (m : Nat), .int .i64 (e : Nat), .int .i64 (start : Nat)] w fun x w' => ∃ p, x = .returned (.tuple #[.pointer (some ⟨p, 0, none⟩), .int .i64 0]) ∧ IsJ Head K w' p L S (JS.fresh fr m e start) ∧ w.heap.size ≤ p ∧ Below w.heap.size w w'
  append : ∀ (K : Nat → Prop) (w : World) (p : Nat) (L : Loc) (S : St) (J : JS) (v : Value) (zs : List Nat), IsJ Head K w p L S J → JOk S J → Octs w v zs → (∀ x n c, v = .slice (some x) n c → 0 < n → K x.block) → S.waits.length + 5000 ≤ 1000000000 → S.written + 5000 ≤ 1000000000 → StepsK K w →
    Calls Tryd.prog 10 #[.pointer (some ⟨p, 0, none⟩), v] w fun x w' => ∃ wv, x = .returned (.int .i64 ((appendR S J zs).2.2 : Nat)) ∧ IsJ Head K w' p { L with wv := wv } (appendR S J zs).1 (appendR S J zs).2.1 ∧ Kept K w w'
  used : ∀ (w : World) (p b : Nat) (J : JS), Head w p b J → Calls Tryd.prog 19 #[.pointer (some ⟨p, 0, none⟩)] w fun x w' => x = .returned (.int .i64 (J.used : Nat)) ∧ w' = w
  free : ∀ (w : World) (p b : Nat) (J : JS), Head w p b J → J.used ≤ J.n → J.n ≤ 4096 → Calls Tryd.prog 20 #[.pointer (some ⟨p, 0, none⟩)] w fun x w' => x = .returned (.int .i64 ((J.n - J.used : Nat) : Int)) ∧ ∃ m, w' = w.drewN m
  place : ∀ (w : World) (p b : Nat) (J : JS), Head w p b J → Calls Tryd.prog 13 #[.pointer (some ⟨p, 0, none⟩)] w fun x w' => x = .returned (.int .i64 (J.place : Nat)) ∧ w' = w
  epoch : ∀ (w : World) (p b : Nat) (J : JS), Head w p b J → Calls Tryd.prog 12 #[.pointer (some ⟨p, 0, none⟩)] w fun x w' => x = .returned (.int .i64 (J.epoch : Nat)) ∧ w' = w
  fits : ∀ (w : World) (p b : Nat) (J : JS) (m : Int), Head w p b J → J.used ≤ J.n → J.n ≤ 4096 → -9223372036854775808 ≤ m → m ≤ 9223372036854775807 → Calls Tryd.prog 17 #[.pointer (some ⟨p, 0, none⟩), .int .i64 m] w fun x w' => x = .returned (.bool (fitsB J m)) ∧ ∃ m, w' = w.drewN m
  reset : ∀ (K : Nat → Prop) (w : World) (p : Nat) (L : Loc) (S : St) (J : JS), IsJ Head K w p L S J → J.epoch ≤ 2147483648 →
    Calls Tryd.prog 11 #[.pointer (some ⟨p, 0, none⟩)] w fun x w' => x = .returned (.int .i64 ((resetR J).2 : Nat)) ∧ IsJ Head K w' p L S (resetR J).1 ∧ Kept K w w'
  open_ : ∀ (K : Nat → Prop) (w : World) (L : Loc) (S : St) (fr m e start : Nat), IsDisk K w L S → 4 ≤ m → m ≤ 400 → fr + m ≤ S.n → 1 ≤ e → e ≤ 2147483648 → start < m → S.left ≠ 0 → StepsK K w →
    Calls Tryd.prog 16 #[.pointer (some ⟨L.b, 0, none⟩), .int .i64 (fr : Nat), .int .i64 (m : Nat), .int .i64 (e : Nat), .int .i64 (start : Nat)] w fun x w' => ∃ p lv, x = .returned (.tuple #[.pointer (some ⟨p, 0, none⟩), lv, .int .i64 0]) ∧ IsJ Head K w' p L S.spent (openJ S.see fr m e start) ∧ w.heap.size ≤ p ∧ OctRows w' lv (openPs S.see fr m e start) ∧ Kept K w w'

theorem IsJ.below {B : JOps} {K : Nat → Prop} {w w' : World} {p : Nat} {L : Loc} {S : St} {J : JS} (h : IsJ B.Head K w p L S J) (hb : Below w.heap.size w w') : IsJ B.Head K w' p L S J := ⟨B.same h.1 (hb.block _ (B.lt h.1)), h.2.1.belowed hb, h.2.2⟩
theorem IsJ.alloc {B : JOps} {K : Nat → Prop} {w : World} {p : Nat} {L : Loc} {S : St} {J : JS} (h : IsJ B.Head K w p L S J) (o : Obj) : IsJ B.Head K (w.alloc o) p L S J := h.below ((Below.refl _ w).alloc (Nat.le_refl _) o)
theorem IsJ.drew {B : JOps} {K : Nat → Prop} {w : World} {p : Nat} {L : Loc} {S : St} {J : JS} (h : IsJ B.Head K w p L S J) : IsJ B.Head K w.drew p L S J := ⟨B.same h.1 rfl, h.2.1.drew, h.2.2⟩
/-- A new block taken among those that are kept. -/
theorem IsJ.with {B : JOps} {K : Nat → Prop} {w : World} {p : Nat} {L : Loc} {S : St} {J : JS} (h : IsJ B.Head K w p L S J) (o : Obj) : IsJ B.Head (fun k => K k ∨ k = w.heap.size) (w.alloc o) p L S J := by
  have h1 := h.alloc o
  have hp := B.lt h.1
  refine ⟨h1.1, h1.2.1.turnK (fun k hf hk => ?_) (fun k hk => ?_), fun hk => ?_⟩
  · have hlt := h.2.1.lt k hf
    rcases hk with (hk | hk) | hk
    · exact h.2.1.nK k hf (.inl hk)
    · omega
    · exact h.2.1.nK k hf (.inr hk)
  · rcases hk with (hk | hk) | hk
    · have := h.2.1.kl k (.inl hk); simp; omega
    · simp; omega
    · simp; omega
  · rcases hk with hk | hk
    · exact h.2.2 hk
    · omega
theorem IsJ.less {B : JOps} {K K' : Nat → Prop} {w : World} {p : Nat} {L : Loc} {S : St} {J : JS} (h : IsJ B.Head K w p L S J) (hK : ∀ k, K' k → K k) : IsJ B.Head K' w p L S J :=
  ⟨h.1, h.2.1.less fun k hk => hk.elim (fun a => .inl (hK k a)) .inr, fun hk => h.2.2 (hK p hk)⟩
/-- 'make([]byte, n)'. -/
theorem Tryd.makeN (n : Nat) (hn : n ≤ 100000) (W : World) : (Instr.makeSlice 32 (.int .i64 (n : Nat)) (.int .i64 (n : Nat))).run Tryd.prog W = .ok (.slice (some ⟨W.heap.size, 0, none⟩) n n) (W.alloc (.cells (u8s (zl n)).toArray 5)) := by
  obtain ⟨i0, hi, hz0, hz1, hz2⟩ := info_parts Tryd.infoU8'
  have := run_make (P := Tryd.prog) W 32 5 i0 _ Tryd.underlying32 hi hz0 .i64 .i64 (n : Nat) (n : Nat) (by omega) (by omega) (by rw [hz2]; omega) (by omega)
  rw [this, hz1, Nat.mul_one, Int.toNat_natCast, made_u8]
theorem octs_made (W : World) (n : Nat) (hn : n ≤ 100000) (t : TypeId) : Octs (W.alloc (.cells (u8s (zl n)).toArray t)) (.slice (some ⟨W.heap.size, 0, none⟩) n n) (zl n) := by
  refine ⟨zl_small n, by rw [zl_length]; unfold maxLen; omega, some ⟨W.heap.size, 0, none⟩, n, by rw [zl_length], by rw [zl_length]; exact Nat.le_refl _, by unfold maxLen; omega, .inr ⟨_, rfl, .inr ⟨W.heap.size, 0, rfl, by simp, fun j hj => ?_⟩⟩⟩
  rw [cell_of_row _ _ _ _ _ _ (heap_alloc_new W _)]
  simp [u8s, List.getElem?_eq_getElem hj]
end Go.Proofs.YthhdkadjlddmkaaDoor
