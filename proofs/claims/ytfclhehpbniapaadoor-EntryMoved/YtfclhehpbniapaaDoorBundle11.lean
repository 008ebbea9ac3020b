/- What the laws of layer 11's sums ask of the program: one bundle of contracts. -/
import Derived.Test.YtfclhehpbniapaaDoorRefSum11
namespace Go.Proofs.YtfclhehpbniapaaDoor
open Go.RowKit
set_option linter.unusedVariables false
/-- The first lines of the laws, and a page's sum. -/
structure EntryD : Prop where
  awake : ∀ w, Steps w → Calls Tryd.prog 5 #[] w fun e w' => e = .returned (.bool true) ∧ Below w.heap.size w w'
  sum : ∀ w (h p g : Int) v zs, I64 h → I64 p → I64 g → Steps w → Octs w v zs → zs.length ≤ 700 → Calls Tryd.prog 6 #[.agg #[.int .i64 h, .int .i64 p], .int .i64 g, v] w fun e w' => e = .returned (.int .u32 (sum11 (h, p) g zs : Nat)) ∧ Below w.heap.size w w'
theorem own_form11 {w : World} {base : Nat} {e : TypeId} {v : Value} {n : Nat} {xs : List Value} (h : w.ownsRow base e 1 v n xs) (hn : 0 < n) : ∃ g cap, v = .slice (some ⟨g, 0, none⟩) n cap ∧ base ≤ g ∧ n ≤ cap := by
  rcases h.2 with ⟨rfl, h0⟩ | ⟨g, cap, cur, rfl, hb, hg, hc, _⟩
  · omega
  · exact ⟨g, cap, rfl, hb, hc⟩
theorem sum11_lt {k : Ky} {g : Int} {zs : List Nat} (h : ∀ z ∈ zs, z < 256) : sum11 k g zs < 4294967296 := crcSum_lt _ (whole11_small h)
end Go.Proofs.YtfclhehpbniapaaDoor
