/- Plain arithmetic: sums of two lists of octets that are apart in one octet, or in four at the beginning. No Go in sight. -/
import Derived.Test.YtfclhehpbniapaaDoorMathTurn
namespace Go.Proofs.YtfclhehpbniapaaDoor

theorem crcTake_reg {u v c : Nat} (hu : u < 4294967296) (hv : v < 4294967296) (hc : c < 256) (h : crcTake u c = crcTake v c) : u = v := by
  unfold crcTake at h
  have h1 := crcN_inj 8 _ _ (Nat.xor_lt_two_pow (n := 32) hu (by omega)) (Nat.xor_lt_two_pow (n := 32) hv (by omega)) h
  have h2 := congrArg (fun n => n ^^^ c) h1
  simpa only [xor_cancel] using h2
theorem crcTake_oct {u c d : Nat} (hu : u < 4294967296) (hc : c < 256) (hd : d < 256) (h : crcTake u c = crcTake u d) : c = d := by
  unfold crcTake at h
  have h1 := crcN_inj 8 _ _ (Nat.xor_lt_two_pow (n := 32) hu (by omega)) (Nat.xor_lt_two_pow (n := 32) hu (by omega)) h
  have h2 := congrArg (fun n => u ^^^ n) h1
  simpa only [← Nat.xor_assoc, Nat.xor_self, Nat.zero_xor] using h2
/-- The same octets behind two registers that leave one register: they were one. -/
theorem crcReg_inj (l : List Nat) : ∀ (u v : Nat), (∀ z ∈ l, z < 256) → u < 4294967296 → v < 4294967296 → crcReg l u = crcReg l v → u = v := by
  induction l with
  | nil => exact fun u v _ _ _ h => h
  | cons c r ih =>
    intro u v hl hu hv h
    have hc := hl c (by simp)
    exact crcTake_reg hu hv hc (ih _ _ (fun z hz => hl z (by simp [hz])) (crcTake_lt u c hu hc) (crcTake_lt v c hv hc) h)
theorem crcSum_reg {a b : List Nat} (h : crcSum a = crcSum b) : crcReg a crcF = crcReg b crcF := by
  unfold crcSum crcAdd at h
  rw [Nat.zero_xor] at h
  have := congrArg (fun n => n ^^^ crcF) h
  simpa only [xor_cancel] using this
/-- Two that are apart in one octet alone have two sums. -/
theorem crcSum_one {p r : List Nat} {x y : Nat} (hp : ∀ z ∈ p, z < 256) (hr : ∀ z ∈ r, z < 256) (hx : x < 256) (hy : y < 256) (h : crcSum (p ++ x :: r) = crcSum (p ++ y :: r)) : x = y := by
  have h1 := crcSum_reg h
  rw [crcReg_append, crcReg_append] at h1
  have hq := crcReg_lt p crcF hp (by decide)
  exact crcTake_oct hq hx hy (crcReg_inj r _ _ hr (crcTake_lt _ x hq hx) (crcTake_lt _ y hq hy) h1)
theorem crcSum_set {l : List Nat} {i y : Nat} (hi : i < l.length) (hl : ∀ z ∈ l, z < 256) (hy : y < 256) (h : crcSum (l.set i y) = crcSum l) : y = l[i] := by
  have e1 : l = l.take i ++ l[i] :: l.drop (i + 1) := by rw [List.getElem_cons_drop, List.take_append_drop]
  have e2 : l.set i y = l.take i ++ y :: l.drop (i + 1) := by rw [List.set_eq_take_append_cons_drop, if_pos hi]
  rw [e2] at h
  conv at h => rhs; rw [e1]
  exact crcSum_one (fun z hz => hl z (List.mem_of_mem_take hz)) (fun z hz => hl z (List.mem_of_mem_drop hz)) hy (hl _ (List.getElem_mem _)) h
/-- Two that are apart in their first four octets alone have two sums. -/
theorem crcSum_four {m n : Nat} {c : List Nat} (hm : m < 4294967296) (hn : n < 4294967296) (hc : ∀ z ∈ c, z < 256) (h : crcSum (octN m ++ c) = crcSum (octN n ++ c)) : m = n := by
  have h1 := crcSum_reg h
  rw [crcReg_append, crcReg_append] at h1
  have h2 := crcReg_inj c _ _ hc (crcReg_lt _ _ (octN_small m) (by decide)) (crcReg_lt _ _ (octN_small n) (by decide)) h1
  rw [crcReg_num _ _ (octN_small m), crcReg_num _ _ (octN_small n), octN_num m hm, octN_num n hn, show (octN m).length = (octN n).length from rfl] at h2
  have h3 := crcN_inj _ _ _ (Nat.xor_lt_two_pow (n := 32) (by decide) hm) (Nat.xor_lt_two_pow (n := 32) (by decide) hn) h2
  have h4 := congrArg (fun k => crcF ^^^ k) h3
  simpa only [← Nat.xor_assoc, Nat.xor_self, Nat.zero_xor] using h4
end Go.Proofs.YtfclhehpbniapaaDoor
