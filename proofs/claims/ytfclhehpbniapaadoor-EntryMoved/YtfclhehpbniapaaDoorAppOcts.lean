/- Octets appended to a row that the call owns, wherever they lie; octets as a string. Generic over the program. -/
import Derived.Test.YtfclhehpbniapaaDoorOcts
import Derived.Laws.AppendOwnNone
import Derived.Laws.BytesArg
namespace Go.Proofs.YtfclhehpbniapaaDoor
open Go.RowKit
set_option linter.unusedVariables false

/-- Octets as cells. -/
def u8s (zs : List Nat) : List Value := zs.map fun z => Value.int .u8 (z : Nat)
theorem u8s_append (a b : List Nat) : u8s (a ++ b) = u8s a ++ u8s b := by simp [u8s]
theorem u8s_length (a : List Nat) : (u8s a).length = a.length := by simp [u8s]

/-- 'append(own, octets...)'. -/
theorem wpList_append_octs {P : Program} (w : World) {ops : Array Oper} {rest : List Oper} {o : Oper} {a : Act} {Q : Exit → Act → World → Prop} (hgd : o.guard = none) (s x : Operand) (t : TypeId)
    (ho : o.op = .call { callee := .builtin .append, args := #[s, x], argTypes := #[t, t] })
    (base : Nat) (e : TypeId) (i : TypeInfo) (ht : P.underlying t = some (.slice e)) (hi : P.info? e = some i) (hz : i.zero = some (.int .u8 0)) (hsize : i.size = 1) (hby : i.bytes = 1)
    (v : Value) (n : Nat) (xs : List Nat) (hs : a.eval s = v) (hown : w.ownsRow base e 1 v n (u8s xs))
    (y : Value) (zs : List Nat) (hx : a.eval x = y) (hsrc : Octs w y zs) (h63 : n + zs.length ≤ 140737488355328) (hbase : base ≤ w.heap.size)
    (h : ∀ v' w', w'.ownsRow base e 1 v' (n + zs.length) (u8s (xs ++ zs)) → w.grownBy w' v.ownBlock → wpList P ops Q rest (a.put o.dst v') w') : wpList P ops Q (o :: rest) a w := by
  obtain ⟨h1, h2, ad, cap, rfl, h3, h4, h5⟩ := hsrc
  rcases h5 with ⟨rfl, rfl⟩ | ⟨ad, rfl, h5⟩
  · obtain rfl : zs = [] := List.eq_nil_of_length_eq_zero (by omega)
    refine wpList_append_own_none hgd s x t ho base e i 1 ht hi v n _ hs hown hx ?_
    exact h v w (by simpa using hown) (World.grownBy.refl _ _)
  · refine wpList_append_own w hgd s x t ho base e i (.int .u8 0) 1 1 ht hi hz hsize hby rfl (by decide) v n _ hs hown ad zs.length cap (u8s zs) hx (by rw [u8s_length, Nat.mul_one]) ?_ ?_ (by unfold maxLen; omega) (by omega) hbase ?_
    · intro j u hu
      rcases h5 with rfl | ⟨b, off, rfl, hlt, hc⟩
      · simp [u8s] at hu
      · have hj : j < zs.length := by
          by_cases hj : j < zs.length
          · exact hj
          · rw [List.getElem?_eq_none (by rw [u8s_length]; omega)] at hu; cases hu
        have e1 : (⟨b, off, none⟩ : Addr).add j = ⟨b, off + j, none⟩ := by unfold Addr.add; split <;> simp_all
        rw [e1, hc j hj]
        simp [u8s, List.getElem?_eq_getElem hj] at hu ⊢
        exact hu
    · intro u hu
      simp only [u8s, List.mem_map] at hu
      obtain ⟨z, _, rfl⟩ := hu
      rfl
    · intro v' w' hw hg _
      rw [← u8s_append] at hw
      exact h v' w' hw hg

theorem Octs.owned {w : World} {base : Nat} {e : TypeId} {v : Value} {n : Nat} {zs : List Nat} (h : w.ownsRow base e 1 v n (u8s zs)) (hz : ∀ z ∈ zs, z < 256) : Octs w v zs := Octs.ofOwn h hz
theorem below_grown {B : Nat} {w w' : World} {e : TypeId} {v : Value} {n : Nat} {xs : List Value} (hown : w.ownsRow B e 1 v n xs) (hg : w.grownBy w' v.ownBlock) (hB : B ≤ w.heap.size) : Below B w w' :=
  (Below.refl B w).grown hg hB fun j hj => (hown.lt j hj).1

/-- Octets as a string. -/
def strN (zs : List Nat) : ByteArray := strOfNums (zs.map Int.ofNat)
theorem strN_inj {a b : List Nat} (ha : ∀ z ∈ a, z < 256) (hb : ∀ z ∈ b, z < 256) (h : strN a = strN b) : a = b := by
  have e : (strN a).data.toList = (strN b).data.toList := by rw [h]
  simp only [strN, strOfNums, List.map_map] at e
  have key : ∀ (l : List Nat), (∀ z ∈ l, z < 256) → (l.map ((fun n => UInt8.ofNat n.toNat) ∘ Int.ofNat)).map UInt8.toNat = l := by
    intro l hl
    rw [List.map_map]
    conv => rhs; rw [← List.map_id l]
    apply List.map_congr_left
    intro z hz
    have := hl z hz
    simp; omega
  have e2 := congrArg (List.map UInt8.toNat) e
  rw [key a ha, key b hb] at e2
  exact e2
theorem strN_append (a b : List Nat) : strN a ++ strN b = strN (a ++ b) := by
  apply ByteArray.ext
  simp [strN, strOfNums]
theorem strN_size (a : List Nat) : (strN a).size = a.length := by
  simp [strN, strOfNums, ByteArray.size]

/-- 'string(octets)'. -/
theorem conv_octs {P : Program} {w : World} {v : Value} {zs : List Nat} (h : Octs w v zs) (src e dst : TypeId) (hs : P.underlying src = some (.slice e)) (he : P.underlying e = some (.int .u8)) (hd : P.underlying dst = some .string) :
    (convert src dst v).run P w = .ok (.string (strN zs)) w := by
  obtain ⟨h1, h2, a, cap, rfl, h3, h4, h5⟩ := h
  have zero : ∀ (p : Option Addr) (c : Nat), (convert src dst (.slice p 0 c)).run P w = .ok (.string ByteArray.empty) w := by
    intro p c
    rw [run_convert_bytes_string w src dst e _ 0 c hs he hd]
    cases p <;> simp [Conv.bytesToString, loadCells]
    all_goals rfl
  rcases h5 with ⟨rfl, rfl⟩ | ⟨ad, rfl, rfl | ⟨b, off, rfl, hlt, hc⟩⟩
  · obtain rfl : zs = [] := List.eq_nil_of_length_eq_zero (by omega)
    exact zero none 0
  · exact zero (some ad) cap
  · refine run_convert_bytes_arg w src e hs he b off zs.length cap (zs.map Int.ofNat) (by simp) ?_ dst hd
    intro j hj
    rw [hc j hj]
    simp [List.getD, List.getElem?_map, List.getElem?_eq_getElem hj]
theorem u8s_set (xs : List Nat) (k z : Nat) : (u8s xs).set k (.int .u8 (z : Nat)) = u8s (xs.set k z) := by simp [u8s, List.map_set]
end Go.Proofs.YtfclhehpbniapaaDoor
