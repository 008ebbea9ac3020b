/- Some texts of mine, one behind the other (joined by program). -/
import Derived.Test.YtjhkcdnfnmglhaaGreatDoorJ8
import Derived.Test.YtjhkcdnfnmglhaaGreatDoorJ3
import Derived.Test.YtjhkcdnfnmglhaaGreatDoorJ4
import Derived.Test.YtjhkcdnfnmglhaaGreatDoorJ6

/- The document's overlay: Drop. (Written by wip/mk_ref12b.py.) -/
namespace Go.Proofs.YtjhkcdnfnmglhaaGreatDoor
open Go.RowKit
set_option linter.unusedVariables false
set_option maxRecDepth 20000

/-- Other slots are taken on the board. -/
theorem R12.setBoard {w w' : World} {R : Nat → Prop} {p pb b : Nat} {vB vW vF : Value} {O : Ov} {B' : Nat → Bool} (h : R12 w R p pb b vB vW vF O) (ho : Only b w w') (hb : RefB w' pb b O.n B') : R12 w' R p pb b vB vW vF { O with B := B' } where
  head := (ho.heap (h.lt p h.inP.1) h.ne.1).trans h.head
  board := hb
  base := h.base.sparedN ho.size fun g hg hl => ho.heap hl (h.own g (.inl hg)).2.2
  was := h.was.sparedN ho.size fun g hg hl => ho.heap hl (h.own g (.inr (.inl hg))).2.2
  fresh := h.fresh.sparedN ho.size fun g hg hl => ho.heap hl (h.own g (.inr (.inr hg))).2.2
  inP := h.inP
  own := h.own
  lt := fun g hg => Nat.lt_of_lt_of_le (h.lt g hg) ho.size
theorem only_only2 {p b : Nat} {w w' : World} (h : Only b w w') : Only2 p b w w' := Kept.mono h fun k hk => ⟨hk.1, hk.2.2⟩
theorem nums_lit {w : World} {z : Int} (T : TypeId) (hz : I64 z) : Nums (w.alloc (.cells #[.int .i64 z] T)) (.slice (some ⟨w.heap.size, 0, none⟩) 1 1) [z] := Nums.one hz
theorem Step12.after {w w1 w' : World} {R R1 : Nat → Prop} {p pb b : Nat} {O' : Ov} (hm : More R R1 w) (ho : Only2 p b w w1) (h : Step12 w1 w' R1 p pb b O') : Step12 w w' R p pb b O' := by
  obtain ⟨R', a, c, d, h1, h2, h3⟩ := h
  exact ⟨R', a, c, d, h1, hm.trans h2 ho.size, ho.trans h3⟩

set_option maxHeartbeats 4000000 in
theorem refDrop12_any (w : World) (R : Nat → Prop) (p pb b : Nat) (vB vW vF : Value) (O : Ov) (t : Int) (h q : Int) (hR : R12 w R p pb b vB vW vF O) (hO : OvOk O t) (ht : t ≤ 1000000000000000) (hk : KI (h, q)) (hl : O.base.length ≤ 100 ∧ O.was.length ≤ 99 ∧ O.fresh.length ≤ 100) :
    Calls Tryz.prog 11 #[.pointer (some ⟨p, 0, none⟩), .agg #[.int .i64 h, .int .i64 q]] w fun x w' => x = .returned (.bool (dropO O (h, q)).2) ∧ Step12 w w' R p pb b (dropO O (h, q)).1 := by
  have HL : Hid (O.base.length ≤ 100 ∧ O.was.length ≤ 99 ∧ O.fresh.length ≤ 100) := hl
  have HO : Hid (OvOk O t) := hO
  have HT : Hid (t ≤ 1000000000000000) := ht
  have HKI : Hid (KI (h, q)) := hk
  have HMF : Hid (∀ m ∈ O.fresh, MdI m) := hO.mdF ht
  have hb1 : Below w.heap.size w (w.alloc (.cells #[.int .i64 h, .int .i64 q] 32)) := (Below.refl _ _).alloc (Nat.le_refl _) _
  have HB1 : Hid (Below w.heap.size w (w.alloc (.cells #[.int .i64 h, .int .i64 q] 32))) := hb1
  have HR1 : Hid (R12 (w.alloc (.cells #[.int .i64 h, .int .i64 q] 32)) R p pb b vB vW vF O) := hR.below hb1
  have HK : Hid ((w.alloc (.cells #[.int .i64 h, .int .i64 q] 32)).heap[w.heap.size]? = some (.cells #[.int .i64 h, .int .i64 q] 32 (0, 0))) := heap_alloc_new w _
  have HXL : Hid (w.heap.size < (w.alloc (.cells #[.int .i64 h, .int .i64 q] 32)).heap.size) := lt_of_heap HK.out
  have HKC : Hid (∀ W, Below (w.alloc (.cells #[.int .i64 h, .int .i64 q] 32)).heap.size (w.alloc (.cells #[.int .i64 h, .int .i64 q] 32)) W → W.cell? ⟨w.heap.size, 0, none⟩ = some (.int .i64 h) ∧ W.cell? ⟨w.heap.size, 1, none⟩ = some (.int .i64 q)) := fun W hb => cells2' ((hb.block w.heap.size HXL.out).trans HK.out)
  obtain ⟨aF, lF, cF, eF⟩ : ∃ a l c, vF = .slice a l c := by obtain ⟨a, c, e⟩ := hR.fresh.shape; exact ⟨a, _, c, e⟩
  subst eF
  have HCL : Hid (∀ W, Below (w.alloc (.cells #[.int .i64 h, .int .i64 q] 32)).heap.size (w.alloc (.cells #[.int .i64 h, .int .i64 q] 32)) W → W.cell? ⟨p, 3, none⟩ = some (.slice aF lF cF) ∧ W.cell? ⟨w.heap.size, 0, none⟩ = some (.int .i64 h) ∧ W.cell? ⟨w.heap.size, 1, none⟩ = some (.int .i64 q)) := fun W hb => ⟨(HR1.out.below hb).cells.2.2.2, HKC.out W hb⟩
  have HFF : Hid (∀ W, Below (w.alloc (.cells #[.int .i64 h, .int .i64 q] 32)).heap.size (w.alloc (.cells #[.int .i64 h, .int .i64 q] 32)) W → Calls Tryz.prog 36 #[.slice aF lF cF, .agg #[.int .i64 h, .int .i64 q]] W fun e w' => e = .returned (.tuple #[entV (findM O.fresh (h, q)), .bool (findM O.fresh (h, q)).isSome]) ∧ Below W.heap.size W w') := fun W hb => refFind11_any W _ _ h q (HR1.out.below hb).fresh
  cases hf : findM O.fresh (h, q) with
  | none =>
    rw [hf] at HFF
    have HDO : Hid (dropO O (h, q) = (retireO O (h, q), (findM O.base (h, q)).isSome)) := by unfold Hid dropO; rw [hf]
    rw [HDO.out]
    have HF0 : Hid (∀ W, Below (w.alloc (.cells #[.int .i64 h, .int .i64 q] 32)).heap.size (w.alloc (.cells #[.int .i64 h, .int .i64 q] 32)) W → Calls Tryz.prog 36 #[.slice aF lF cF, .agg #[.int .i64 h, .int .i64 q]] W fun e w' => e = .returned (.tuple #[.agg #[.int .i64 0, .int .i64 0, .int .u32 0], .bool false]) ∧ Below W.heap.size W w') := HFF
    generalize hbb : (findM O.base (h, q)).isSome = bb
    have HBB : Hid ((findM O.base (h, q)).isSome = bb) := hbb
    clear HFF hb1 hR hO hk hl hf HK HMF HDO ht hbb
    go_enter Tryz.func11, Tryz.ntmps11
    go_wp2_with fail
    generalize (w.alloc (.cells #[.int .i64 h, .int .i64 q] 32)) = V at *
    go_region_held3 (fun w' => w'.cell? ⟨p, 3, none⟩ = some (.slice aF lF cF) ∧ w'.cell? ⟨w.heap.size, 0, none⟩ = some (.int .i64 h) ∧ w'.cell? ⟨w.heap.size, 1, none⟩ = some (.int .i64 q)) (first | exact HCL.out _ ((Below.refl _ _).alloc (Nat.le_refl _) _).drew | exact HCL.out _ (Below.refl _ _).drew | exact HCL.out _ HB3.out | exact HCL.out _ (HB3.out.alloc HB3.out.size _) | exact HCL.out _ (((HB3.out.setCell (Nat.le_refl _) _).setCell (Nat.le_refl _) _).setCell (Nat.le_refl _) _)) (first
      | (go_at_call 36; refine (HF0.out _ ((Below.refl _ _).alloc (Nat.le_refl _) _).drew).mono ?_; rintro e w3 ⟨rfl, hb3⟩
         have hge : Below V.heap.size V (V.alloc (.cells #[.int .i64 0, .int .i64 0, .int .u32 0] 37)) := (Below.refl _ _).alloc (Nat.le_refl _) _
         have HB3 : Hid (Below V.heap.size V w3) := hge.trans ((below_undrew hb3).mono hge.size)
         have HZ3 : Hid (w3.heap[V.heap.size]? = some (.cells #[.int .i64 0, .int .i64 0, .int .u32 0] 37 (0, 0))) := (hb3.block V.heap.size (by simp)).trans (heap_alloc_new V _)
         obtain ⟨⟨z0, z1, z2⟩, zf⟩ := cells3' HZ3.out
         have f0 := zf 0
         have f1 := zf 1
         have f2 := zf 2
         clear hb3 hge zf)
      | (go_at_call 36; refine (HF0.out _ (Below.refl _ _).drew).mono ?_; rintro e w3 ⟨rfl, hb3⟩
         have HB3 : Hid (Below V.heap.size V w3) := below_undrew hb3
         clear hb3))
    all_goals first
      | (have HB4 : Hid (Below V.heap.size V (((w3.setCell ⟨V.heap.size, 0, none⟩ (.int .i64 0)).setCell ⟨V.heap.size, 1, none⟩ (.int .i64 0)).setCell ⟨V.heap.size, 2, none⟩ (.int .u32 0))) := ((HB3.out.setCell (Nat.le_refl _) _).setCell (Nat.le_refl _) _).setCell (Nat.le_refl _) _
         have HZ4 : Hid ((((w3.setCell ⟨V.heap.size, 0, none⟩ (.int .i64 0)).setCell ⟨V.heap.size, 1, none⟩ (.int .i64 0)).setCell ⟨V.heap.size, 2, none⟩ (.int .u32 0)).heap[V.heap.size]? = some (.cells #[.int .i64 0, .int .i64 0, .int .u32 0] 37 (0, 0))) := (heap_set_row (heap_set_row (heap_set_row HZ3.out 0 _) 1 _) 2 _).trans rfl
         clear z0 z1 z2 f0 f1 f2 HZ3
         generalize hw4 : ((w3.setCell ⟨V.heap.size, 0, none⟩ (.int .i64 0)).setCell ⟨V.heap.size, 1, none⟩ (.int .i64 0)).setCell ⟨V.heap.size, 2, none⟩ (.int .u32 0) = w4 at *
         clear hw4
         obtain ⟨Zb, hZb⟩ : ∃ Zb, Zb = V.heap.size := ⟨_, rfl⟩
         have HZg : Hid (V.heap.size ≤ Zb) := Nat.le_of_eq hZb.symm
         rw [← hZb] at HZ4
         try rw [← hZb]
         clear hZb)
      | (have HB4 : Hid (Below V.heap.size V (w3.alloc (.cells #[.int .i64 0, .int .i64 0, .int .u32 0] 37))) := HB3.out.alloc HB3.out.size _
         have HZ4 : Hid ((w3.alloc (.cells #[.int .i64 0, .int .i64 0, .int .u32 0] 37)).heap[w3.heap.size]? = some (.cells #[.int .i64 0, .int .i64 0, .int .u32 0] 37 (0, 0))) := heap_alloc_new w3 _
         generalize hw4 : w3.alloc (.cells #[.int .i64 0, .int .i64 0, .int .u32 0] 37) = w4 at *
         clear hw4
         obtain ⟨Zb, hZb⟩ : ∃ Zb, Zb = w3.heap.size := ⟨_, rfl⟩
         have HZg : Hid (V.heap.size ≤ Zb) := by rw [hZb]; exact HB3.out.size
         rw [← hZb] at HZ4
         try rw [← hZb]
         clear hZb)
    all_goals
      have HR4 : Hid (R12 w4 R p pb b vB vW (.slice aF lF cF) O) := HR1.out.below HB4.out
      have HRE : Hid (Calls Tryz.prog 38 #[.pointer (some ⟨p, 0, none⟩), .agg #[.int .i64 h, .int .i64 q]] w4 fun x w' => x = .returned (.bool bb) ∧ Step12 w4 w' R p pb b (retireO O (h, q))) := by
        have := refRetire12_any w4 R p pb b vB vW _ O h q HR4.out (HO.out.mdB HT.out) (HO.out.mdW HT.out) HKI.out ⟨HL.out.1, HL.out.2.1⟩
        rwa [HBB.out] at this
      have HO4 : Hid (Only2 p b w w4) := Kept.ofBelow (HB1.out.trans (HB4.out.mono HB1.out.size)) fun _ hk => hk.1
      obtain ⟨k0, k1⟩ := HKC.out w4 HB4.out
      clear HF0 HCL HR1 HXL HZ4 HZg HB4
      go_wp2_with fail
      refine HRE.out.mono ?_
      rintro e w9 ⟨rfl, hst⟩
      have HST : Hid (Step12 w w9 R p pb b (retireO O (h, q))) := hst.after (More.refl _ _) HO4.out
      clear hst HRE k0 k1
      cases bb
      · go_wp2
        go_ret
        exact ⟨rfl, HST.out⟩
      · go_wp2
        go_ret
        exact ⟨rfl, HST.out⟩
  | some e0 =>
    obtain ⟨s0, g0, u0⟩ := e0
    rw [hf] at HFF
    have HDO : Hid (dropO O (h, q) = (retireO (cutF O (h, q) s0) (h, q), true)) := by unfold Hid dropO; rw [hf]
    rw [HDO.out]
    have HF0 : Hid (∀ W, Below (w.alloc (.cells #[.int .i64 h, .int .i64 q] 32)).heap.size (w.alloc (.cells #[.int .i64 h, .int .i64 q] 32)) W → Calls Tryz.prog 36 #[.slice aF lF cF, .agg #[.int .i64 h, .int .i64 q]] W fun e w' => e = .returned (.tuple #[.agg #[.int .i64 s0, .int .i64 g0, .int .u32 (u0 : Nat)], .bool true]) ∧ Below W.heap.size W w') := HFF
    have HRR : Hid (∀ g, R g → g < w.heap.size) := hR.lt
    have HGG : Hid (GoodG O.n O.B [s0]) := slot_good hO (c := 2) (k := (h, q)) (e := (s0, g0, u0)) ⟨by decide, hf⟩
    have HOC : Hid (OvOk (cutF O (h, q) s0) t) := cutF_ok hO hf
    have HSI : Hid (I64 s0) := (HMF.out _ (find_mem hf)).2.2.1
    clear HFF hb1 hR hO hk hl hf HDO ht
    go_enter Tryz.func11, Tryz.ntmps11
    go_wp2_with fail
    generalize (w.alloc (.cells #[.int .i64 h, .int .i64 q] 32)) = V at *
    go_region_held3 (fun w' => w'.cell? ⟨p, 3, none⟩ = some (.slice aF lF cF) ∧ w'.cell? ⟨w.heap.size, 0, none⟩ = some (.int .i64 h) ∧ w'.cell? ⟨w.heap.size, 1, none⟩ = some (.int .i64 q)) (first | exact HCL.out _ ((Below.refl _ _).alloc (Nat.le_refl _) _).drew | exact HCL.out _ (Below.refl _ _).drew | exact HCL.out _ HB3.out | exact HCL.out _ (HB3.out.alloc HB3.out.size _) | exact HCL.out _ (((HB3.out.setCell (Nat.le_refl _) _).setCell (Nat.le_refl _) _).setCell (Nat.le_refl _) _)) (first
      | (go_at_call 36; refine (HF0.out _ ((Below.refl _ _).alloc (Nat.le_refl _) _).drew).mono ?_; rintro e w3 ⟨rfl, hb3⟩
         have hge : Below V.heap.size V (V.alloc (.cells #[.int .i64 0, .int .i64 0, .int .u32 0] 37)) := (Below.refl _ _).alloc (Nat.le_refl _) _
         have HB3 : Hid (Below V.heap.size V w3) := hge.trans ((below_undrew hb3).mono hge.size)
         have HZ3 : Hid (w3.heap[V.heap.size]? = some (.cells #[.int .i64 0, .int .i64 0, .int .u32 0] 37 (0, 0))) := (hb3.block V.heap.size (by simp)).trans (heap_alloc_new V _)
         obtain ⟨⟨z0, z1, z2⟩, zf⟩ := cells3' HZ3.out
         have f0 := zf 0
         have f1 := zf 1
         have f2 := zf 2
         clear hb3 hge zf)
      | (go_at_call 36; refine (HF0.out _ (Below.refl _ _).drew).mono ?_; rintro e w3 ⟨rfl, hb3⟩
         have HB3 : Hid (Below V.heap.size V w3) := below_undrew hb3
         clear hb3))
    all_goals first
      | (have HB4 : Hid (Below V.heap.size V (((w3.setCell ⟨V.heap.size, 0, none⟩ (.int .i64 s0)).setCell ⟨V.heap.size, 1, none⟩ (.int .i64 g0)).setCell ⟨V.heap.size, 2, none⟩ (.int .u32 (u0 : Nat)))) := ((HB3.out.setCell (Nat.le_refl _) _).setCell (Nat.le_refl _) _).setCell (Nat.le_refl _) _
         have HZ4 : Hid ((((w3.setCell ⟨V.heap.size, 0, none⟩ (.int .i64 s0)).setCell ⟨V.heap.size, 1, none⟩ (.int .i64 g0)).setCell ⟨V.heap.size, 2, none⟩ (.int .u32 (u0 : Nat))).heap[V.heap.size]? = some (.cells #[.int .i64 s0, .int .i64 g0, .int .u32 (u0 : Nat)] 37 (0, 0))) := (heap_set_row (heap_set_row (heap_set_row HZ3.out 0 _) 1 _) 2 _).trans rfl
         clear z0 z1 z2 f0 f1 f2 HZ3
         generalize hw4 : ((w3.setCell ⟨V.heap.size, 0, none⟩ (.int .i64 s0)).setCell ⟨V.heap.size, 1, none⟩ (.int .i64 g0)).setCell ⟨V.heap.size, 2, none⟩ (.int .u32 (u0 : Nat)) = w4 at *
         clear hw4
         obtain ⟨Zb, hZb⟩ : ∃ Zb, Zb = V.heap.size := ⟨_, rfl⟩
         have HZg : Hid (V.heap.size ≤ Zb) := Nat.le_of_eq hZb.symm
         rw [← hZb] at HZ4
         try rw [← hZb]
         clear hZb)
      | (have HB4 : Hid (Below V.heap.size V (w3.alloc (.cells #[.int .i64 s0, .int .i64 g0, .int .u32 (u0 : Nat)] 37))) := HB3.out.alloc HB3.out.size _
         have HZ4 : Hid ((w3.alloc (.cells #[.int .i64 s0, .int .i64 g0, .int .u32 (u0 : Nat)] 37)).heap[w3.heap.size]? = some (.cells #[.int .i64 s0, .int .i64 g0, .int .u32 (u0 : Nat)] 37 (0, 0))) := heap_alloc_new w3 _
         generalize hw4 : w3.alloc (.cells #[.int .i64 s0, .int .i64 g0, .int .u32 (u0 : Nat)] 37) = w4 at *
         clear hw4
         obtain ⟨Zb, hZb⟩ : ∃ Zb, Zb = w3.heap.size := ⟨_, rfl⟩
         have HZg : Hid (V.heap.size ≤ Zb) := by rw [hZb]; exact HB3.out.size
         rw [← hZb] at HZ4
         try rw [← hZb]
         clear hZb)
    all_goals
      obtain ⟨⟨x0, x1, x2⟩, xf⟩ := cells3' HZ4.out
      have HR4 : Hid (R12 w4 R p pb b vB vW (.slice aF lF cF) O) := HR1.out.below HB4.out
      have HBw4 : Hid (Below w.heap.size w w4) := HB1.out.trans (HB4.out.mono HB1.out.size)
      have HK4 : Hid (w4.heap[w.heap.size]? = some (.cells #[.int .i64 h, .int .i64 q] 32 (0, 0))) := (HB4.out.block w.heap.size HXL.out).trans HK.out
      have HGV : Hid (∀ W v, Below w4.heap.size w4 W → Nums W v [s0] → v.ownBlock ≠ some b → Calls Tryz.prog 41 #[.pointer (some ⟨pb, 0, none⟩), v] W fun x w' => x = .returned (.int .i64 0) ∧ R12 w' R p pb b vB vW (.slice aF lF cF) { O with B := giveB O.B [s0] } ∧ Only b W w') := fun W v hb hv hne => by
        have hr := HR4.out.below hb
        refine (refGive_any W pb b O.n O.B v [s0] hr.board HO.out.n2 hv (fun _ => hne)).mono ?_
        rintro x w' ⟨⟨_, hx, hb'⟩ | ⟨hg, _⟩, ho⟩
        · exact ⟨hx, hr.setBoard ho hb', ho⟩
        · exact absurd HGG.out hg
      have HBN : Hid (b ≠ w4.heap.size ∧ w.heap.size ≠ b) := by
        have h1 := HRR.out b HR4.out.inP.2.2
        have h2 := HBw4.out.size
        exact ⟨by omega, by omega⟩
      have c0 := HR4.out.cells.1
      have c0a : (w4.alloc (.cells #[.int .i64 s0] 3)).cell? ⟨p, 0, none⟩ = some (.pointer (some ⟨pb, 0, none⟩)) := (HR4.out.below ((Below.refl _ _).alloc (Nat.le_refl _) _)).cells.1
      have c0b : (w4.alloc (.cells #[.int .i64 s0] 3)).drew.cell? ⟨p, 0, none⟩ = some (.pointer (some ⟨pb, 0, none⟩)) := c0a
      clear HF0 HCL HR1 HXL HZ4 HZg HB4 HKC HK
      go_upto_region 3 with fail
      go_cut [6] from 17 (fun s6 wx => s6 = .bool true ∧ Hid (R12 wx R p pb b vB vW (.slice aF lF cF) { O with B := giveB O.B [s0] }) ∧ Hid (Only2 p b w wx) ∧ Hid (wx.heap[w.heap.size]? = some (.cells #[.int .i64 h, .int .i64 q] 32 (0, 0))))
      case first =>
        go_wp2_with fail
        go_region_law (first
          | (go_simp; go_at_call 41; refine (HGV.out _ _ (by first | exact ((Below.refl _ _).alloc (Nat.le_refl _) _).drew | exact (Below.refl _ _).drew.alloc (Nat.le_refl _) _) (nums_lit 3 HSI.out) (by simp only [Value.ownBlock]; intro e; exact HBN.out.1 (by simpa using e.symm))).mono ?_; rintro e w5 ⟨rfl, hr5, ho5⟩
             have HR5 : Hid (R12 w5 R p pb b vB vW (.slice aF lF cF) { O with B := giveB O.B [s0] }) := hr5
             have HO5 : Hid (Only2 p b w4 w5) := only2_below (Kept.ofBelow (by first | exact ((Below.refl _ _).alloc (Nat.le_refl _) _).drew | exact (Below.refl _ _).drew.alloc (Nat.le_refl _) _) fun _ hk => hk.1) (Below.refl _ _) |>.trans (only_only2 ho5)
             clear hr5 ho5))
        all_goals
          go_wp2
          go_meet
          have HO6 : Hid (Only2 p b w w5) := Only2.trans (Kept.ofBelow HBw4.out fun _ hk => hk.1) HO5.out
          exact ⟨rfl, HR5.out, HO6.out, (HO5.out.block _ ⟨lt_of_heap HK4.out, by have := HRR.out p HR4.out.inP.1; omega, HBN.out.2⟩).trans HK4.out⟩
      case rest =>
        obtain ⟨rfl, HR6, HO6, HK6⟩ := hcut
        have HKC6 : Hid (∀ W, Below wc.heap.size wc W → W.cell? ⟨w.heap.size, 0, none⟩ = some (.int .i64 h) ∧ W.cell? ⟨w.heap.size, 1, none⟩ = some (.int .i64 q)) := fun W hb => cells2' ((hb.block w.heap.size (lt_of_heap HK6.out)).trans HK6.out)
        have HS6 : Hid (w.heap.size ≤ wc.heap.size) := HO6.out.size
        have HAP : Hid (∀ W u, Below wc.heap.size wc W → Keys W u [(h, q)] → Calls Tryz.prog 19 #[.slice aF lF cF, .slice none 0 0, u] W fun e w' => ∃ u', e = .returned u' ∧ Els encM 5 w' u' (cutL O.fresh (h, q)) ∧ Below W.heap.size W w' ∧ ∀ g, u'.ownBlock = some g → W.heap.size ≤ g ∧ g < w'.heap.size) := fun W u hb hu => refApply11_new W _ _ _ O.fresh [] [(h, q)] (HR6.out.below hb).fresh (Els.nil _) hu HL.out.2.2 (by simp) HMF.out (by simp)
        have HON : Hid (∀ W, Calls Tryz.prog 42 #[.agg #[.int .i64 h, .int .i64 q]] W fun e w' => ∃ u, e = .returned u ∧ Keys w' u [(h, q)] ∧ Below W.heap.size W w') := fun W => refone12_any W h q HKI.out
        obtain ⟨k0, k1⟩ := HKC6.out wc (Below.refl _ _)
        have c3 := HR6.out.cells.2.2.2
        have HPX : Hid (p ≠ w.heap.size) := by have := HRR.out p HR4.out.inP.1; unfold Hid; omega
        clear HR4 HBw4 HK4 HGV HBN c0 c0a c0b HB1 x0 x1 x2 xf HRR
        go_upto_region 4 with fail
        go_cut [6] from 25 (fun s6 wx => s6 = .bool true ∧ ∃ R' vF', Hid (R12 wx R' p pb b vB vW vF' (cutF O (h, q) s0)) ∧ Hid (More R R' w) ∧ Hid (Only2 p b w wx) ∧ Hid (wx.heap[w.heap.size]? = some (.cells #[.int .i64 h, .int .i64 q] 32 (0, 0))))
        case first =>
          go_wp2_with fail
          go_region_law (first
            | (go_simp; go_at_call 19; refine (HAP.out _ _ HB7.out HU7.out).mono ?_; rintro e w8 ⟨u8, rfl, hu8, hb8, hn8⟩
               have HB8 : Hid (Below wc.heap.size wc w8) := HB7.out.trans (hb8.mono HB7.out.size)
               have HU8 : Hid (Els encM 5 w8 u8 (cutL O.fresh (h, q)) ∧ ∀ g, u8.ownBlock = some g → wc.heap.size ≤ g ∧ g < w8.heap.size) := ⟨hu8, fun g hg => ⟨Nat.le_trans HB7.out.size (hn8 g hg).1, (hn8 g hg).2⟩⟩
               obtain ⟨a8, c8, e8⟩ := hu8.shape
               generalize (cutL O.fresh (h, q)).length = l8 at e8
               subst e8
               have HR8 : Hid (R12 w8 R p pb b vB vW (.slice aF lF cF) { O with B := giveB O.B [s0] }) := HR6.out.below HB8.out
               have c8' := HR8.out.cells.2.2.2
               have f8 := HR8.out.frozen 3
               clear hu8 hb8 hn8)
            | (go_simp; go_at_call 42; refine (HON.out _).mono ?_; rintro e w7 ⟨u7, rfl, hu7, hb7⟩
               have HB7 : Hid (Below wc.heap.size wc w7) := below_undrew hb7
               have HU7 : Hid (Keys w7 u7 [(h, q)]) := hu7
               have c7 := (HR6.out.below HB7.out).cells.2.2.2
               clear hu7 hb7))
          all_goals
            go_wp2
            go_meet
            have HN8 : Hid (∀ g, (Value.slice a8 l8 c8).ownBlock = some g → ¬ R g ∧ g < w8.heap.size) := fun g hg => by
              have h1 := HU8.out.2 g hg
              exact ⟨fun e => by have := HR6.out.lt g e; omega, h1.2⟩
            exact ⟨rfl, _, _, HR8.out.setFresh HU8.out.1 HN8.out, fun g hg => hg.elim .inl fun e => .inr (Nat.le_trans HS6.out (HU8.out.2 g e).1), only2_set (only2_below HO6.out HB8.out) _, (Below.heap_setCell w8 _ _ _ (fun e => HPX.out e.symm)).trans ((HB8.out.block _ (lt_of_heap HK6.out)).trans HK6.out)⟩
        case rest =>
          obtain ⟨rfl, R9, vF9, HR9, HM9, HO9, HK9⟩ := hcut
          have HRE : Hid (Calls Tryz.prog 38 #[.pointer (some ⟨p, 0, none⟩), .agg #[.int .i64 h, .int .i64 q]] wc fun x w' => ∃ bb, x = .returned (.bool bb) ∧ Step12 wc w' R9 p pb b (retireO (cutF O (h, q) s0) (h, q))) := by
            refine (refRetire12_any wc R9 p pb b vB vW _ _ h q HR9.out (HOC.out.mdB HT.out) (HOC.out.mdW HT.out) HKI.out ⟨HL.out.1, HL.out.2.1⟩).mono ?_
            rintro x w' ⟨hx, hs⟩
            exact ⟨_, hx, hs⟩
          obtain ⟨z0, z1⟩ := cells2' HK9.out
          go_wp2_with fail
          refine HRE.out.mono ?_
          rintro e w9 ⟨bb, rfl, hst⟩
          have HST : Hid (Step12 w w9 R p pb b (retireO (cutF O (h, q) s0) (h, q))) := hst.after HM9.out HO9.out
          clear hst HRE z0 z1
          cases bb
          · go_wp2
            go_ret
            exact ⟨rfl, HST.out⟩
          · go_wp2
            go_ret
            exact ⟨rfl, HST.out⟩
end Go.Proofs.YtjhkcdnfnmglhaaGreatDoor

/- The document's overlay: Put. (Written by wip/mk_ref12b.py.) -/
namespace Go.Proofs.YtjhkcdnfnmglhaaGreatDoor
open Go.RowKit
set_option linter.unusedVariables false
set_option maxRecDepth 20000

theorem retire_B (O : Ov) (B' : Nat → Bool) (k : Ky) : retireO { O with B := B' } k = { retireO O k with B := B' } := by
  unfold retireO
  cases findM O.base k <;> rfl
theorem Only2.setNew2 {p b : Nat} {a w : World} (h : Only2 p b a w) {q : Addr} (hq : a.heap.size ≤ q.block) (u : Value) : Only2 p b a (w.setCell q u) := Kept.setCell (K := fun i => i < a.heap.size ∧ i ≠ p ∧ i ≠ b) h (fun hk => absurd hk.1 (Nat.not_lt.2 hq)) u
/-- What Put leaves. -/
def PutEnd (w w' : World) (R : Nat → Prop) (p pb b : Nat) (O : Ov) (k : Ky) (x : Ending) : Prop := ∃ O' e err, x = .returned (.tuple #[evalE e, .int .i64 err]) ∧ PutRel O k O' e err ∧ Step12 w w' R p pb b O'

set_option maxHeartbeats 8000000 in
theorem refPut12_any (w : World) (R : Nat → Prop) (p pb b : Nat) (vB vW vF : Value) (O : Ov) (t : Int) (h q : Int) (hR : R12 w R p pb b vB vW vF O) (hO : OvOk O t) (h0t : 0 ≤ t) (ht : t ≤ 900000000000000) (hl : O.base.length ≤ 100 ∧ O.was.length ≤ 99 ∧ O.fresh.length ≤ 100) :
    Calls Tryz.prog 9 #[.pointer (some ⟨p, 0, none⟩), .agg #[.int .i64 h, .int .i64 q]] w fun x w' => PutEnd w w' R p pb b O (h, q) x := by
  have HL : Hid (O.base.length ≤ 100 ∧ O.was.length ≤ 99 ∧ O.fresh.length ≤ 100) := hl
  have HO : Hid (OvOk O t) := hO
  have HT : Hid (t ≤ 1000000000000000) := by unfold Hid; omega
  have HMF : Hid (∀ m ∈ O.fresh, MdI m) := hO.mdF HT.out
  have hb1 : Below w.heap.size w ((w.alloc (.cells #[.int .i64 h, .int .i64 q] 32)).alloc (.cells #[.int .i64 0, .int .i64 0, .int .u32 0] 37)) := ((Below.refl _ _).alloc (Nat.le_refl _) _).alloc (by simp) _
  have HB1 : Hid (Below w.heap.size w ((w.alloc (.cells #[.int .i64 h, .int .i64 q] 32)).alloc (.cells #[.int .i64 0, .int .i64 0, .int .u32 0] 37))) := hb1
  have HR1 : Hid (R12 ((w.alloc (.cells #[.int .i64 h, .int .i64 q] 32)).alloc (.cells #[.int .i64 0, .int .i64 0, .int .u32 0] 37)) R p pb b vB vW vF O) := hR.below hb1
  have HK1 : Hid (((w.alloc (.cells #[.int .i64 h, .int .i64 q] 32)).alloc (.cells #[.int .i64 0, .int .i64 0, .int .u32 0] 37)).heap[w.heap.size]? = some (.cells #[.int .i64 h, .int .i64 q] 32 (0, 0))) := (((Below.refl _ _).alloc (Nat.le_refl _) _ : Below _ (w.alloc (.cells #[.int .i64 h, .int .i64 q] 32)) _).block w.heap.size (by simp)).trans (heap_alloc_new w _)
  have HY1 : Hid (((w.alloc (.cells #[.int .i64 h, .int .i64 q] 32)).alloc (.cells #[.int .i64 0, .int .i64 0, .int .u32 0] 37)).heap[w.heap.size + 1]? = some (.cells #[.int .i64 0, .int .i64 0, .int .u32 0] 37 (0, 0))) := by
    have := heap_alloc_new (w.alloc (.cells #[.int .i64 h, .int .i64 q] 32)) (.cells #[.int .i64 0, .int .i64 0, .int .u32 0] 37)
    rwa [show (w.alloc (.cells #[.int .i64 h, .int .i64 q] 32)).heap.size = w.heap.size + 1 by simp] at this
  have HSZ : Hid (((w.alloc (.cells #[.int .i64 h, .int .i64 q] 32)).alloc (.cells #[.int .i64 0, .int .i64 0, .int .u32 0] 37)).heap.size = w.heap.size + 2) := by simp [Hid]
  have HRR : Hid (∀ g, R g → g < w.heap.size) := hR.lt
  have HRI : Hid (∀ W, Calls Tryz.prog 35 #[.agg #[.int .i64 h, .int .i64 q]] W fun e w' => e = .returned (.bool (isR (h, q))) ∧ Below W.heap.size W w') := fun W => refRight_any h q W
  obtain ⟨aF, lF, cF, eF⟩ : ∃ a l c, vF = .slice a l c := by obtain ⟨a, c, e⟩ := hR.fresh.shape; exact ⟨a, _, c, e⟩
  subst eF
  have HR0 : Hid (R12 w R p pb b vB vW (.slice aF lF cF) O) := hR
  cases hr : isR (h, q) with
  | false =>
    have HRL : Hid (PutRel O (h, q) O (0, 0, 0) 2) := .inl ⟨hr, rfl, rfl, rfl⟩
    rw [hr] at HRI
    clear hb1 hR hO h0t ht hl hr
    go_enter Tryz.func9, Tryz.ntmps9
    go_wp2_with fail
    refine (HRI.out _).mono ?_
    rintro e V ⟨rfl, hbV⟩
    have HBV : Hid (Below w.heap.size w V) := HB1.out.trans (hbV.mono HB1.out.size)
    obtain ⟨⟨y0, y1, y2⟩, yf⟩ := cells3' ((hbV.block (w.heap.size + 1) (by rw [HSZ.out]; omega)).trans HY1.out)
    have f0 := yf 0
    have f1 := yf 1
    have f2 := yf 2
    clear hbV yf
    go_wp2
    refine bodyPost_ret (v := .tuple #[.agg #[.int .i64 _, .int .i64 _, .int .u32 _], .int .i64 _]) (results_cell2 rfl rfl rfl (load_ent (set_three _ _ _ y0 y1 y2).1 (set_three _ _ _ y0 y1 y2).2.1 (set_three _ _ _ y0 y1 y2).2.2)) rfl ?_
    exact ⟨O, (0, 0, 0), 2, rfl, HRL.out, Step12.below HR0.out (((HBV.out.setCell (Nat.le_succ _) _).setCell (Nat.le_succ _) _).setCell (Nat.le_succ _) _)⟩
  | true =>
    have HRT : Hid (isR (h, q) = true) := hr
    rw [hr] at HRI
    have HFF : Hid (∀ W, R12 W R p pb b vB vW (.slice aF lF cF) O → Calls Tryz.prog 36 #[.slice aF lF cF, .agg #[.int .i64 h, .int .i64 q]] W fun e w' => e = .returned (.tuple #[entV (findM O.fresh (h, q)), .bool (findM O.fresh (h, q)).isSome]) ∧ Below W.heap.size W w') := fun W hr => refFind11_any W _ _ h q hr.fresh
    cases hf : findM O.fresh (h, q) with
    | some e0 =>
      obtain ⟨s0, g0, u0⟩ := e0
      rw [hf] at HFF
      have hfit := hO.fit 2 (h, q) (s0, g0, u0) ⟨by decide, hf⟩
      have HRL : Hid (PutRel O (h, q) (setF O (h, q) (s0, g0 + 1, 0)) (s0, g0 + 1, 0) 0) := .inr (.inl ⟨hr, (s0, g0, u0), hf, rfl, rfl, rfl⟩)
      have HMD : Hid (MdI ⟨h, q, s0, g0 + 1, 0⟩) := by
        have := HMF.out _ (find_mem hf)
        simp only at hfit
        exact ⟨this.1, this.2.1, this.2.2.1, (show I64 (g0 + 1) from ⟨by omega, by omega⟩), by simp⟩
      have hwg : IntKind.i64.wrap (g0 + 1) = g0 + 1 := by
        simp only at hfit
        rw [IntKind.wrap_i64]; omega
      clear hb1 hR hO h0t ht hl hr hf hfit
      go_enter Tryz.func9, Tryz.ntmps9
      go_wp2_with fail
      refine (HRI.out _).mono ?_
      rintro e V ⟨rfl, hbV⟩
      have HBV : Hid (Below w.heap.size w V) := HB1.out.trans (hbV.mono HB1.out.size)
      have HRV : Hid (R12 V R p pb b vB vW (.slice aF lF cF) O) := HR1.out.below hbV
      have HKV : Hid (V.heap[w.heap.size]? = some (.cells #[.int .i64 h, .int .i64 q] 32 (0, 0))) := (hbV.block w.heap.size (by rw [HSZ.out]; omega)).trans HK1.out
      have HYV : Hid (V.heap[w.heap.size + 1]? = some (.cells #[.int .i64 0, .int .i64 0, .int .u32 0] 37 (0, 0))) := (hbV.block (w.heap.size + 1) (by rw [HSZ.out]; omega)).trans HY1.out
      have HCL : Hid (∀ W, Below V.heap.size V W → W.cell? ⟨p, 3, none⟩ = some (.slice aF lF cF) ∧ W.cell? ⟨w.heap.size, 0, none⟩ = some (.int .i64 h) ∧ W.cell? ⟨w.heap.size, 1, none⟩ = some (.int .i64 q)) := fun W hb => ⟨(HRV.out.below hb).cells.2.2.2, cells2' ((hb.block w.heap.size (lt_of_heap HKV.out)).trans HKV.out)⟩
      have HF0 : Hid (∀ W, Below V.heap.size V W → Calls Tryz.prog 36 #[.slice aF lF cF, .agg #[.int .i64 h, .int .i64 q]] W fun e w' => e = .returned (.tuple #[.agg #[.int .i64 s0, .int .i64 g0, .int .u32 (u0 : Nat)], .bool true]) ∧ Below W.heap.size W w') := fun W hb => HFF.out W (HRV.out.below hb)
      have HVS : Hid (w.heap.size + 2 ≤ V.heap.size) := by rw [← HSZ.out]; exact hbV.size
      clear hbV HR1 HK1 HY1 HRI HB1 HFF HSZ
      go_wp2_with fail
      go_region_held3 (fun w' => w'.cell? ⟨p, 3, none⟩ = some (.slice aF lF cF) ∧ w'.cell? ⟨w.heap.size, 0, none⟩ = some (.int .i64 h) ∧ w'.cell? ⟨w.heap.size, 1, none⟩ = some (.int .i64 q)) (first | exact HCL.out _ ((Below.refl _ _).alloc (Nat.le_refl _) _).drew | exact HCL.out _ (Below.refl _ _).drew | exact HCL.out _ HB3.out | exact HCL.out _ (HB3.out.alloc HB3.out.size _) | exact HCL.out _ (((HB3.out.setCell (Nat.le_refl _) _).setCell (Nat.le_refl _) _).setCell (Nat.le_refl _) _)) (first
        | (go_at_call 36; refine (HF0.out _ ((Below.refl _ _).alloc (Nat.le_refl _) _).drew).mono ?_; rintro e w3 ⟨rfl, hb3⟩
           have hge : Below V.heap.size V (V.alloc (.cells #[.int .i64 0, .int .i64 0, .int .u32 0] 37)) := (Below.refl _ _).alloc (Nat.le_refl _) _
           have HB3 : Hid (Below V.heap.size V w3) := hge.trans ((below_undrew hb3).mono hge.size)
           have HZ3 : Hid (w3.heap[V.heap.size]? = some (.cells #[.int .i64 0, .int .i64 0, .int .u32 0] 37 (0, 0))) := (hb3.block V.heap.size (by simp)).trans (heap_alloc_new V _)
           obtain ⟨⟨z0, z1, z2⟩, zf⟩ := cells3' HZ3.out
           have f0 := zf 0
           have f1 := zf 1
           have f2 := zf 2
           clear hb3 hge zf)
        | (go_at_call 36; refine (HF0.out _ (Below.refl _ _).drew).mono ?_; rintro e w3 ⟨rfl, hb3⟩
           have HB3 : Hid (Below V.heap.size V w3) := below_undrew hb3
           clear hb3))
      all_goals first
        | (have HB4 : Hid (Below V.heap.size V (((w3.setCell ⟨V.heap.size, 0, none⟩ (.int .i64 s0)).setCell ⟨V.heap.size, 1, none⟩ (.int .i64 g0)).setCell ⟨V.heap.size, 2, none⟩ (.int .u32 (u0 : Nat)))) := ((HB3.out.setCell (Nat.le_refl _) _).setCell (Nat.le_refl _) _).setCell (Nat.le_refl _) _
           have HZ4 : Hid ((((w3.setCell ⟨V.heap.size, 0, none⟩ (.int .i64 s0)).setCell ⟨V.heap.size, 1, none⟩ (.int .i64 g0)).setCell ⟨V.heap.size, 2, none⟩ (.int .u32 (u0 : Nat))).heap[V.heap.size]? = some (.cells #[.int .i64 s0, .int .i64 g0, .int .u32 (u0 : Nat)] 37 (0, 0))) := (heap_set_row (heap_set_row (heap_set_row HZ3.out 0 _) 1 _) 2 _).trans rfl
           clear z0 z1 z2 f0 f1 f2 HZ3
           generalize hw4 : ((w3.setCell ⟨V.heap.size, 0, none⟩ (.int .i64 s0)).setCell ⟨V.heap.size, 1, none⟩ (.int .i64 g0)).setCell ⟨V.heap.size, 2, none⟩ (.int .u32 (u0 : Nat)) = w4 at *
           clear hw4
           obtain ⟨Zb, hZb⟩ : ∃ Zb, Zb = V.heap.size := ⟨_, rfl⟩
           have HZg : Hid (V.heap.size ≤ Zb) := Nat.le_of_eq hZb.symm
           rw [← hZb] at HZ4
           try rw [← hZb]
           clear hZb)
        | (have HB4 : Hid (Below V.heap.size V (w3.alloc (.cells #[.int .i64 s0, .int .i64 g0, .int .u32 (u0 : Nat)] 37))) := HB3.out.alloc HB3.out.size _
           have HZ4 : Hid ((w3.alloc (.cells #[.int .i64 s0, .int .i64 g0, .int .u32 (u0 : Nat)] 37)).heap[w3.heap.size]? = some (.cells #[.int .i64 s0, .int .i64 g0, .int .u32 (u0 : Nat)] 37 (0, 0))) := heap_alloc_new w3 _
           generalize hw4 : w3.alloc (.cells #[.int .i64 s0, .int .i64 g0, .int .u32 (u0 : Nat)] 37) = w4 at *
           clear hw4
           obtain ⟨Zb, hZb⟩ : ∃ Zb, Zb = w3.heap.size := ⟨_, rfl⟩
           have HZg : Hid (V.heap.size ≤ Zb) := by rw [hZb]; exact HB3.out.size
           rw [← hZb] at HZ4
           try rw [← hZb]
           clear hZb)
      all_goals
        obtain ⟨⟨x0, x1, x2⟩, xf⟩ := cells3' HZ4.out
        have x3 := xf 1
        have x4 := xf 2
        have HZ5 : Hid (((w4.setCell ⟨Zb, 1, none⟩ (.int .i64 (g0 + 1))).setCell ⟨Zb, 2, none⟩ (.int .u32 0)).heap[Zb]? = some (.cells #[.int .i64 s0, .int .i64 (g0 + 1), .int .u32 0] 37 (0, 0))) := (heap_set_row (heap_set_row HZ4.out 1 _) 2 _).trans rfl
        have HB5 : Hid (Below V.heap.size V ((w4.setCell ⟨Zb, 1, none⟩ (.int .i64 (g0 + 1))).setCell ⟨Zb, 2, none⟩ (.int .u32 0))) := (HB4.out.setCell HZg.out _).setCell HZg.out _
        clear HZ4 HCL HF0
        go_upto_region 13 with fail
        clear x0 x1 x2 xf x3 x4
        generalize (w4.setCell ⟨Zb, 1, none⟩ (.int .i64 (g0 + 1))).setCell ⟨Zb, 2, none⟩ (.int .u32 0) = w5 at *
        have HR5 : Hid (R12 w5 R p pb b vB vW (.slice aF lF cF) O) := HRV.out.below HB5.out
        have HK5 : Hid (w5.heap[w.heap.size]? = some (.cells #[.int .i64 h, .int .i64 q] 32 (0, 0))) := (HB5.out.block _ (lt_of_heap HKV.out)).trans HKV.out
        have HY5 : Hid (w5.heap[w.heap.size + 1]? = some (.cells #[.int .i64 0, .int .i64 0, .int .u32 0] 37 (0, 0))) := (HB5.out.block _ (lt_of_heap HYV.out)).trans HYV.out
        have HF5 : Hid (∀ W, Below w5.heap.size w5 W → Els encM 5 W (.slice aF lF cF) O.fresh) := fun W hb => (HR5.out.below hb).fresh
        have HBw5 : Hid (Below w.heap.size w w5) := HBV.out.trans (HB5.out.mono HBV.out.size)
        have HO5 : Hid (Only2 p b w w5) := Kept.ofBelow HBw5.out fun _ hk => hk.1
        have HNE : Hid (p ≠ Zb ∧ p ≠ w.heap.size + 1) := by
          have h1 := HRR.out p HR5.out.inP.1
          have h2 := HZg.out
          have h3 := HVS.out
          exact ⟨by omega, by omega⟩
        have HYX : Hid (¬ R (w.heap.size + 1)) := fun e => by have := HRR.out _ e; omega
        clear HB5 HB4 HZg HRV HKV HYV HBV HVS hwg
        obtain ⟨⟨x0, x1, x2⟩, _⟩ := cells3' HZ5.out
        obtain ⟨k0, k1⟩ := cells2' HK5.out
        have c3 := HR5.out.cells.2.2.2
        have HPU : Hid (∀ W, Below w5.heap.size w5 W → Calls Tryz.prog 39 #[.slice aF lF cF, .agg #[.int .i64 h, .int .i64 q], .agg #[.int .i64 s0, .int .i64 (g0 + 1), .int .u32 0]] W fun e w' => ∃ u', e = .returned u' ∧ Els encM 5 w' u' (putL O.fresh (h, q) (s0, g0 + 1, 0)) ∧ Below W.heap.size W w' ∧ ∀ g, u'.ownBlock = some g → W.heap.size ≤ g ∧ g < w'.heap.size) := fun W hb => refput12_any W _ O.fresh h q _ _ _ (HF5.out W hb) HL.out.2.2 HMF.out HMD.out
        go_upto_region 13 with fail
        go_cut [0] from 60 (fun s0' wx => s0' = .pointer (some ⟨p, 0, none⟩) ∧ ∃ R' vF', Hid (R12 wx R' p pb b vB vW vF' (setF O (h, q) (s0, g0 + 1, 0))) ∧ Hid (More R R' w) ∧ Hid (Only2 p b w wx) ∧ Hid (¬ R' (w.heap.size + 1)) ∧ Hid (wx.heap[Zb]? = some (.cells #[.int .i64 s0, .int .i64 (g0 + 1), .int .u32 0] 37 (0, 0))) ∧ Hid (wx.heap[w.heap.size + 1]? = some (.cells #[.int .i64 0, .int .i64 0, .int .u32 0] 37 (0, 0))))
        case first =>
          go_wp2_with fail
          go_region_law (first
            | (go_simp; go_at_call 39; refine (HPU.out _ (Below.refl _ _).drew).mono ?_; rintro e w6 ⟨u6, rfl, hu6, hb6, hn6⟩
               have HB6 : Hid (Below w5.heap.size w5 w6) := below_undrew hb6
               have HU6 : Hid (Els encM 5 w6 u6 (putL O.fresh (h, q) (s0, g0 + 1, 0)) ∧ ∀ g, u6.ownBlock = some g → w5.heap.size ≤ g ∧ g < w6.heap.size) := ⟨hu6, hn6⟩
               obtain ⟨a6, c6, e6⟩ := hu6.shape
               generalize (putL O.fresh (h, q) (s0, g0 + 1, 0)).length = l6 at e6
               subst e6
               have HR6 : Hid (R12 w6 R p pb b vB vW (.slice aF lF cF) O) := HR5.out.below HB6.out
               have c6' := HR6.out.cells.2.2.2
               have f6 := HR6.out.frozen 3
               clear hu6 hb6 hn6))
          all_goals
            go_wp2
            go_meet
            have HN6 : Hid (∀ g, (Value.slice a6 l6 c6).ownBlock = some g → ¬ R g ∧ g < w6.heap.size) := fun g hg => by
              have h1 := HU6.out.2 g hg
              exact ⟨fun e => by have := HR5.out.lt g e; omega, h1.2⟩
            exact ⟨rfl, _, _, HR6.out.setFresh HU6.out.1 HN6.out, fun g hg => hg.elim (fun e => .inl e) fun e => .inr (Nat.le_trans (HO5.out).size (HU6.out.2 g e).1), only2_set (only2_below HO5.out HB6.out) _, (fun e => e.elim HYX.out fun e' => by have := (HU6.out.2 _ e').1; have := lt_of_heap HY5.out; omega), (Below.heap_setCell w6 _ _ _ (fun e => HNE.out.1 e.symm)).trans ((HB6.out.block _ (lt_of_heap HZ5.out)).trans HZ5.out), (Below.heap_setCell w6 _ _ _ (fun e => HNE.out.2 e.symm)).trans ((HB6.out.block _ (lt_of_heap HY5.out)).trans HY5.out)⟩
        case rest =>
          obtain ⟨rfl, R9, vF9, HR9, HM9, HO9, HN9, HZ9, HY9⟩ := hcut
          obtain ⟨⟨z0, z1, z2⟩, _⟩ := cells3' HZ9.out
          obtain ⟨⟨y0, y1, y2⟩, yf⟩ := cells3' HY9.out
          have f0 := yf 0
          have f1 := yf 1
          have f2 := yf 2
          clear yf
          go_wp2
          refine bodyPost_ret (v := .tuple #[.agg #[.int .i64 _, .int .i64 _, .int .u32 _], .int .i64 _]) (results_cell2 rfl rfl rfl (load_ent (set_three _ _ _ y0 y1 y2).1 (set_three _ _ _ y0 y1 y2).2.1 (set_three _ _ _ y0 y1 y2).2.2)) rfl ?_
          refine ⟨_, _, _, rfl, HRL.out, R9, _, _, vF9, (HR9.out.kept (by simp) fun g hg => ?_), HM9.out, ((HO9.out.setNew2 (Nat.le_succ _) _).setNew2 (Nat.le_succ _) _).setNew2 (Nat.le_succ _) _⟩
          have hne : g ≠ w.heap.size + 1 := fun e => HN9.out (by rw [← e]; exact hg)
          rw [Below.heap_setCell _ _ _ _ hne, Below.heap_setCell _ _ _ _ hne, Below.heap_setCell _ _ _ _ hne]
    | none =>
      rw [hf] at HFF
      have HFN : Hid (findM O.fresh (h, q) = none) := hf
      have HT0 : Hid (0 ≤ t ∧ t ≤ 900000000000000) := ⟨h0t, ht⟩
      clear hb1 hR hO h0t ht hl hr hf
      go_enter Tryz.func9, Tryz.ntmps9
      go_wp2_with fail
      refine (HRI.out _).mono ?_
      rintro e V ⟨rfl, hbV⟩
      have HBV : Hid (Below w.heap.size w V) := HB1.out.trans (hbV.mono HB1.out.size)
      have HRV : Hid (R12 V R p pb b vB vW (.slice aF lF cF) O) := HR1.out.below hbV
      have HKV : Hid (V.heap[w.heap.size]? = some (.cells #[.int .i64 h, .int .i64 q] 32 (0, 0))) := (hbV.block w.heap.size (by rw [HSZ.out]; omega)).trans HK1.out
      have HYV : Hid (V.heap[w.heap.size + 1]? = some (.cells #[.int .i64 0, .int .i64 0, .int .u32 0] 37 (0, 0))) := (hbV.block (w.heap.size + 1) (by rw [HSZ.out]; omega)).trans HY1.out
      have HCL : Hid (∀ W, Below V.heap.size V W → W.cell? ⟨p, 3, none⟩ = some (.slice aF lF cF) ∧ W.cell? ⟨w.heap.size, 0, none⟩ = some (.int .i64 h) ∧ W.cell? ⟨w.heap.size, 1, none⟩ = some (.int .i64 q)) := fun W hb => ⟨(HRV.out.below hb).cells.2.2.2, cells2' ((hb.block w.heap.size (lt_of_heap HKV.out)).trans HKV.out)⟩
      have HF0 : Hid (∀ W, Below V.heap.size V W → Calls Tryz.prog 36 #[.slice aF lF cF, .agg #[.int .i64 h, .int .i64 q]] W fun e w' => e = .returned (.tuple #[.agg #[.int .i64 0, .int .i64 0, .int .u32 0], .bool false]) ∧ Below W.heap.size W w') := fun W hb => HFF.out W (HRV.out.below hb)
      have HVS : Hid (w.heap.size + 2 ≤ V.heap.size) := by rw [← HSZ.out]; exact hbV.size
      clear hbV HR1 HK1 HY1 HRI HB1 HFF HSZ
      go_wp2_with fail
      go_region_held3 (fun w' => w'.cell? ⟨p, 3, none⟩ = some (.slice aF lF cF) ∧ w'.cell? ⟨w.heap.size, 0, none⟩ = some (.int .i64 h) ∧ w'.cell? ⟨w.heap.size, 1, none⟩ = some (.int .i64 q)) (first | exact HCL.out _ ((Below.refl _ _).alloc (Nat.le_refl _) _).drew | exact HCL.out _ (Below.refl _ _).drew | exact HCL.out _ HB3.out | exact HCL.out _ (HB3.out.alloc HB3.out.size _) | exact HCL.out _ (((HB3.out.setCell (Nat.le_refl _) _).setCell (Nat.le_refl _) _).setCell (Nat.le_refl _) _)) (first
        | (go_at_call 36; refine (HF0.out _ ((Below.refl _ _).alloc (Nat.le_refl _) _).drew).mono ?_; rintro e w3 ⟨rfl, hb3⟩
           have hge : Below V.heap.size V (V.alloc (.cells #[.int .i64 0, .int .i64 0, .int .u32 0] 37)) := (Below.refl _ _).alloc (Nat.le_refl _) _
           have HB3 : Hid (Below V.heap.size V w3) := hge.trans ((below_undrew hb3).mono hge.size)
           have HZ3 : Hid (w3.heap[V.heap.size]? = some (.cells #[.int .i64 0, .int .i64 0, .int .u32 0] 37 (0, 0))) := (hb3.block V.heap.size (by simp)).trans (heap_alloc_new V _)
           obtain ⟨⟨z0, z1, z2⟩, zf⟩ := cells3' HZ3.out
           have f0 := zf 0
           have f1 := zf 1
           have f2 := zf 2
           clear hb3 hge zf)
        | (go_at_call 36; refine (HF0.out _ (Below.refl _ _).drew).mono ?_; rintro e w3 ⟨rfl, hb3⟩
           have HB3 : Hid (Below V.heap.size V w3) := below_undrew hb3
           clear hb3))
      all_goals first
        | (have HB4 : Hid (Below V.heap.size V (((w3.setCell ⟨V.heap.size, 0, none⟩ (.int .i64 0)).setCell ⟨V.heap.size, 1, none⟩ (.int .i64 0)).setCell ⟨V.heap.size, 2, none⟩ (.int .u32 0))) := ((HB3.out.setCell (Nat.le_refl _) _).setCell (Nat.le_refl _) _).setCell (Nat.le_refl _) _
           have HZ4 : Hid ((((w3.setCell ⟨V.heap.size, 0, none⟩ (.int .i64 0)).setCell ⟨V.heap.size, 1, none⟩ (.int .i64 0)).setCell ⟨V.heap.size, 2, none⟩ (.int .u32 0)).heap[V.heap.size]? = some (.cells #[.int .i64 0, .int .i64 0, .int .u32 0] 37 (0, 0))) := (heap_set_row (heap_set_row (heap_set_row HZ3.out 0 _) 1 _) 2 _).trans rfl
           clear z0 z1 z2 f0 f1 f2 HZ3
           generalize hw4 : ((w3.setCell ⟨V.heap.size, 0, none⟩ (.int .i64 0)).setCell ⟨V.heap.size, 1, none⟩ (.int .i64 0)).setCell ⟨V.heap.size, 2, none⟩ (.int .u32 0) = w4 at *
           clear hw4
           obtain ⟨Zb, hZb⟩ : ∃ Zb, Zb = V.heap.size := ⟨_, rfl⟩
           have HZg : Hid (V.heap.size ≤ Zb) := Nat.le_of_eq hZb.symm
           rw [← hZb] at HZ4
           try rw [← hZb]
           clear hZb)
        | (have HB4 : Hid (Below V.heap.size V (w3.alloc (.cells #[.int .i64 0, .int .i64 0, .int .u32 0] 37))) := HB3.out.alloc HB3.out.size _
           have HZ4 : Hid ((w3.alloc (.cells #[.int .i64 0, .int .i64 0, .int .u32 0] 37)).heap[w3.heap.size]? = some (.cells #[.int .i64 0, .int .i64 0, .int .u32 0] 37 (0, 0))) := heap_alloc_new w3 _
           generalize hw4 : w3.alloc (.cells #[.int .i64 0, .int .i64 0, .int .u32 0] 37) = w4 at *
           clear hw4
           obtain ⟨Zb, hZb⟩ : ∃ Zb, Zb = w3.heap.size := ⟨_, rfl⟩
           have HZg : Hid (V.heap.size ≤ Zb) := by rw [hZb]; exact HB3.out.size
           rw [← hZb] at HZ4
           try rw [← hZb]
           clear hZb)
      all_goals
        have HR4 : Hid (R12 w4 R p pb b vB vW (.slice aF lF cF) O) := HRV.out.below HB4.out
        have HK4 : Hid (w4.heap[w.heap.size]? = some (.cells #[.int .i64 h, .int .i64 q] 32 (0, 0))) := (HB4.out.block _ (lt_of_heap HKV.out)).trans HKV.out
        have HY4 : Hid (w4.heap[w.heap.size + 1]? = some (.cells #[.int .i64 0, .int .i64 0, .int .u32 0] 37 (0, 0))) := (HB4.out.block _ (lt_of_heap HYV.out)).trans HYV.out
        have HO4 : Hid (Only2 p b w w4) := Kept.ofBelow (HBV.out.trans (HB4.out.mono HBV.out.size)) fun _ hk => hk.1
        have HX : Hid ((p < w.heap.size ∧ b < w.heap.size) ∧ w.heap.size + 2 ≤ Zb) := by
          have h1 := HRR.out p HR4.out.inP.1
          have h4 := HRR.out b HR4.out.inP.2.2
          have h2 := HZg.out
          have h3 := HVS.out
          exact ⟨⟨h1, h4⟩, by omega⟩
        have HTK : Hid (Calls Tryz.prog 37 #[.pointer (some ⟨pb, 0, none⟩)] w4 fun x w' => (∃ s : Nat, x = .returned (.tuple #[.int .i64 (s : Nat), .int .i64 0]) ∧ IsTake O.B O.n s ∧ R12 w' R p pb b vB vW (.slice aF lF cF) { O with B := putB O.B s 1 true } ∧ Only b w4 w') ∨ (x = .returned (.tuple #[.int .i64 0, .int .i64 12]) ∧ (∀ i, i < O.n → O.B i = true) ∧ R12 w' R p pb b vB vW (.slice aF lF cF) O ∧ Only b w4 w')) := by
          refine (refTake_any w4 pb b O.n O.B HR4.out.board HO.out.n2 HO.out.tail).mono ?_
          rintro x w' (⟨s, hx, hs, hb, ho⟩ | ⟨hx, hs, hb, ho⟩)
          · exact .inl ⟨s, hx, hs, HR4.out.setBoard ho hb, ho⟩
          · exact .inr ⟨hx, hs, HR4.out.setBoard ho hb, ho⟩
        have c0 := HR4.out.cells.1
        clear HF0 HCL HRV HKV HYV HBV HVS HB4 HZg
        go_wp2_with fail
        refine HTK.out.mono ?_
        rintro e wt (⟨s, rfl, hs, hrt, hot⟩ | ⟨rfl, hfull, hrt, hot⟩)
        · obtain ⟨O2, hO2⟩ : ∃ O2 : Ov, O2 = { retireO O (h, q) with B := putB O.B s 1 true } := ⟨_, rfl⟩
          have HRT2 : Hid (R12 wt R p pb b vB vW (.slice aF lF cF) { O with B := putB O.B s 1 true }) := hrt
          have HOT : Hid (Only2 p b w wt) := Only2.trans HO4.out (only_only2 hot)
          have HSW : Hid (w4.heap.size ≤ wt.heap.size) := hot.size
          have HKT : Hid (wt.heap[w.heap.size]? = some (.cells #[.int .i64 h, .int .i64 q] 32 (0, 0))) := (hot.heap (lt_of_heap HK4.out) (by have := HX.out.1.2; omega)).trans HK4.out
          have HYT : Hid (wt.heap[w.heap.size + 1]? = some (.cells #[.int .i64 0, .int .i64 0, .int .u32 0] 37 (0, 0))) := (hot.heap (lt_of_heap HY4.out) (by have := HX.out.1.2; omega)).trans HY4.out
          have HZT : Hid (wt.heap[Zb]? = some (.cells #[.int .i64 0, .int .i64 0, .int .u32 0] 37 (0, 0))) := (hot.heap (lt_of_heap HZ4.out) (by have := HX.out; omega)).trans HZ4.out
          have HRE : Hid (Calls Tryz.prog 38 #[.pointer (some ⟨p, 0, none⟩), .agg #[.int .i64 h, .int .i64 q]] wt fun x w' => ∃ bb, x = .returned (.bool bb) ∧ Step12 wt w' R p pb b O2) := by
            have hI := isR_iff.1 HRT.out
            refine (refRetire12_any wt R p pb b vB vW _ _ h q HRT2.out (HO.out.mdB HT.out) (HO.out.mdW HT.out) (by simp only at hI; exact ⟨⟨by omega, by omega⟩, ⟨by omega, by omega⟩⟩) ⟨HL.out.1, HL.out.2.1⟩).mono ?_
            rintro x w' ⟨hx, hst⟩
            rw [retire_B] at hst
            exact ⟨_, hx, by rw [hO2]; exact hst⟩
          have HFR : Hid (O2.fresh = O.fresh) := by rw [hO2]; exact retire_fresh _ _
          obtain ⟨⟨s1, g1, u1⟩, hen⟩ : ∃ e1 : Ent, e1 = (findM (retireO O (h, q)).was (h, q)).getD (0, 0, 0) := ⟨_, rfl⟩
          have HGE : Hid (genO O (h, q) = g1) := by unfold Hid genO; rw [← hen]
          have HENV : Hid (entV (findM O2.was (h, q)) = .agg #[.int .i64 s1, .int .i64 g1, .int .u32 (u1 : Nat)]) := by
            unfold Hid entV
            rw [hO2]
            simp only
            rw [← hen]
          have HRL : Hid (PutRel O (h, q) { O2 with fresh := putL O.fresh (h, q) ((s : Int), g1 + 1, 0) } ((s : Int), g1 + 1, 0) 0) := by
            refine .inr (.inr (.inr ⟨HRT.out, HFN.out, s, hs, ?_, ?_, rfl⟩))
            · rw [HGE.out, hO2]
              unfold addF
              rw [(retire_n O (h, q)).2, retire_fresh]
            · rw [HGE.out]
          have HGB : Hid (0 ≤ g1 ∧ g1 ≤ t) := by have := genO_bd HO.out HT0.out.1 (h, q); rwa [HGE.out] at this
          have HSN : Hid (s < 65536) := Nat.lt_of_lt_of_le hs.lt HO.out.n2
          have HMD : Hid (MdI ⟨h, q, s, g1 + 1, 0⟩) := by
            have hI := isR_iff.1 HRT.out
            have h1 := HGB.out
            have h2 := HT0.out
            have h3 := HSN.out
            simp only at hI
            exact ⟨show I64 h from ⟨by omega, by omega⟩, show I64 q from ⟨by omega, by omega⟩, show I64 (s : Int) from ⟨by omega, by omega⟩, show I64 (g1 + 1) from ⟨by omega, by omega⟩, by simp⟩
          have hwg : IntKind.i64.wrap (g1 + 1) = g1 + 1 := by
            have h1 := HGB.out
            have h2 := HT0.out
            rw [IntKind.wrap_i64]; omega
          obtain ⟨k0, k1⟩ := cells2' HKT.out
          clear hs hrt hot HTK c0 hO2 hen HR4 HRT2 HK4 HY4 HZ4 HO4 HSN HGB HT0 HFN HGE
          go_wp2_with fail
          refine HRE.out.mono ?_
          rintro e wr ⟨bb, rfl, R2, vB2, vW2, vF2, hr2, hm2, ho2⟩
          clear k0 k1 HRE
          have HR2 : Hid (R12 wr R2 p pb b vB2 vW2 vF2 O2) := hr2
          have HM2 : Hid (More R R2 w) := fun g hg => (hm2 g hg).elim .inl fun e => .inr (Nat.le_trans HOT.out.size e)
          have HYX : Hid (¬ R2 (w.heap.size + 1)) := fun e => (hm2 _ e).elim (fun e => by have := HRR.out _ e; omega) fun e => by have := lt_of_heap HYT.out; omega
          have HZ2 : Hid (¬ R2 Zb) := fun e => (hm2 _ e).elim (fun e => by have := HRR.out _ e; have := HX.out.2; omega) fun e => by have := lt_of_heap HZT.out; omega
          have HOR : Hid (Only2 p b w wr) := Only2.trans HOT.out ho2
          have HKR : Hid (wr.heap[w.heap.size]? = some (.cells #[.int .i64 h, .int .i64 q] 32 (0, 0))) := (ho2.block _ ⟨lt_of_heap HKT.out, by have := HX.out; omega, by have := HX.out; omega⟩).trans HKT.out
          have HYR : Hid (wr.heap[w.heap.size + 1]? = some (.cells #[.int .i64 0, .int .i64 0, .int .u32 0] 37 (0, 0))) := (ho2.block _ ⟨lt_of_heap HYT.out, by have := HX.out; omega, by have := HX.out; omega⟩).trans HYT.out
          have HZR : Hid (wr.heap[Zb]? = some (.cells #[.int .i64 0, .int .i64 0, .int .u32 0] 37 (0, 0))) := (ho2.block _ ⟨lt_of_heap HZT.out, by have := HX.out; omega, by have := HX.out; omega⟩).trans HZT.out
          obtain ⟨aW, lW, cW, eW⟩ : ∃ a l c, vW2 = .slice a l c := by obtain ⟨a, c, e⟩ := hr2.was.shape; exact ⟨a, _, c, e⟩
          subst eW
          obtain ⟨aG, lG, cG, eG⟩ : ∃ a l c, vF2 = .slice a l c := by obtain ⟨a, c, e⟩ := hr2.fresh.shape; exact ⟨a, _, c, e⟩
          subst eG
          have HCW : Hid (∀ W, Below wr.heap.size wr W → W.cell? ⟨p, 2, none⟩ = some (.slice aW lW cW) ∧ W.cell? ⟨w.heap.size, 0, none⟩ = some (.int .i64 h) ∧ W.cell? ⟨w.heap.size, 1, none⟩ = some (.int .i64 q)) := fun W hb => ⟨(HR2.out.below hb).cells.2.2.1, cells2' ((hb.block w.heap.size (lt_of_heap HKR.out)).trans HKR.out)⟩
          have HFW : Hid (∀ W, Below wr.heap.size wr W → Calls Tryz.prog 36 #[.slice aW lW cW, .agg #[.int .i64 h, .int .i64 q]] W fun e w' => e = .returned (.tuple #[.agg #[.int .i64 s1, .int .i64 g1, .int .u32 (u1 : Nat)], .bool (findM O2.was (h, q)).isSome]) ∧ Below W.heap.size W w') := fun W hb => by
            have := refFind11_any W _ _ h q (HR2.out.below hb).was
            rwa [HENV.out] at this
          generalize (findM O2.was (h, q)).isSome = okw at HFW
          clear hr2 hm2 ho2 HKT HYT HZT HOT HSW HENV
          go_wp2_with fail
          go_region_held3 (fun w' => w'.cell? ⟨p, 2, none⟩ = some (.slice aW lW cW) ∧ w'.cell? ⟨w.heap.size, 0, none⟩ = some (.int .i64 h) ∧ w'.cell? ⟨w.heap.size, 1, none⟩ = some (.int .i64 q)) (first | exact HCW.out _ ((Below.refl _ _).alloc (Nat.le_refl _) _).drew | exact HCW.out _ (Below.refl _ _).drew | exact HCW.out _ HC3.out | exact HCW.out _ (HC3.out.alloc HC3.out.size _) | exact HCW.out _ (((HC3.out.setCell (Nat.le_refl _) _).setCell (Nat.le_refl _) _).setCell (Nat.le_refl _) _)) (first
            | (go_at_call 36; refine (HFW.out _ ((Below.refl _ _).alloc (Nat.le_refl _) _).drew).mono ?_; rintro e wx3 ⟨rfl, hb3⟩
               have hge : Below wr.heap.size wr (wr.alloc (.cells #[.int .i64 0, .int .i64 0, .int .u32 0] 37)) := (Below.refl _ _).alloc (Nat.le_refl _) _
               have HC3 : Hid (Below wr.heap.size wr wx3) := hge.trans ((below_undrew hb3).mono hge.size)
               have HQ3 : Hid (wx3.heap[wr.heap.size]? = some (.cells #[.int .i64 0, .int .i64 0, .int .u32 0] 37 (0, 0))) := (hb3.block wr.heap.size (by simp)).trans (heap_alloc_new wr _)
               obtain ⟨⟨z0, z1, z2⟩, zf⟩ := cells3' HQ3.out
               have f0 := zf 0
               have f1 := zf 1
               have f2 := zf 2
               clear hb3 hge zf)
            | (go_at_call 36; refine (HFW.out _ (Below.refl _ _).drew).mono ?_; rintro e wx3 ⟨rfl, hb3⟩
               have HC3 : Hid (Below wr.heap.size wr wx3) := below_undrew hb3
               clear hb3))
          all_goals first
            | (have HC4 : Hid (Below wr.heap.size wr (((wx3.setCell ⟨wr.heap.size, 0, none⟩ (.int .i64 s1)).setCell ⟨wr.heap.size, 1, none⟩ (.int .i64 g1)).setCell ⟨wr.heap.size, 2, none⟩ (.int .u32 (u1 : Nat)))) := ((HC3.out.setCell (Nat.le_refl _) _).setCell (Nat.le_refl _) _).setCell (Nat.le_refl _) _
               have HQ4 : Hid ((((wx3.setCell ⟨wr.heap.size, 0, none⟩ (.int .i64 s1)).setCell ⟨wr.heap.size, 1, none⟩ (.int .i64 g1)).setCell ⟨wr.heap.size, 2, none⟩ (.int .u32 (u1 : Nat))).heap[wr.heap.size]? = some (.cells #[.int .i64 s1, .int .i64 g1, .int .u32 (u1 : Nat)] 37 (0, 0))) := (heap_set_row (heap_set_row (heap_set_row HQ3.out 0 _) 1 _) 2 _).trans rfl
               clear z0 z1 z2 f0 f1 f2 HQ3
               generalize hwx4 : ((wx3.setCell ⟨wr.heap.size, 0, none⟩ (.int .i64 s1)).setCell ⟨wr.heap.size, 1, none⟩ (.int .i64 g1)).setCell ⟨wr.heap.size, 2, none⟩ (.int .u32 (u1 : Nat)) = wx4 at *
               clear hwx4
               obtain ⟨Zq, hZq⟩ : ∃ Zq, Zq = wr.heap.size := ⟨_, rfl⟩
               have HQg : Hid (wr.heap.size ≤ Zq) := Nat.le_of_eq hZq.symm
               rw [← hZq] at HQ4
               try rw [← hZq]
               clear hZq)
            | (have HC4 : Hid (Below wr.heap.size wr (wx3.alloc (.cells #[.int .i64 s1, .int .i64 g1, .int .u32 (u1 : Nat)] 37))) := HC3.out.alloc HC3.out.size _
               have HQ4 : Hid ((wx3.alloc (.cells #[.int .i64 s1, .int .i64 g1, .int .u32 (u1 : Nat)] 37)).heap[wx3.heap.size]? = some (.cells #[.int .i64 s1, .int .i64 g1, .int .u32 (u1 : Nat)] 37 (0, 0))) := heap_alloc_new wx3 _
               generalize hwx4 : wx3.alloc (.cells #[.int .i64 s1, .int .i64 g1, .int .u32 (u1 : Nat)] 37) = wx4 at *
               clear hwx4
               obtain ⟨Zq, hZq⟩ : ∃ Zq, Zq = wx3.heap.size := ⟨_, rfl⟩
               have HQg : Hid (wr.heap.size ≤ Zq) := by rw [hZq]; exact HC3.out.size
               rw [← hZq] at HQ4
               try rw [← hZq]
               clear hZq)
          all_goals
            obtain ⟨⟨q0, q1, q2⟩, qf⟩ := cells3' HQ4.out
            have HZX : Hid (wx4.heap[Zb]? = some (.cells #[.int .i64 0, .int .i64 0, .int .u32 0] 37 (0, 0))) := (HC4.out.block _ (lt_of_heap HZR.out)).trans HZR.out
            obtain ⟨⟨x0, x1, x2⟩, xf⟩ := cells3' HZX.out
            have x3 := xf 0
            have x4 := xf 1
            have x5 := xf 2
            have HZQ : Hid (Zb ≠ Zq) := by have h1 := lt_of_heap HZR.out; have h2 := HQg.out; unfold Hid; omega
            have HZ5 : Hid ((((((wx4.setCell ⟨Zb, 0, none⟩ (.int .i64 (s : Nat))).setCell ⟨Zb, 1, none⟩ (.int .i64 g1)).setCell ⟨Zb, 2, none⟩ (.int .u32 0)).setCell ⟨Zb, 1, none⟩ (.int .i64 (g1 + 1))).setCell ⟨Zb, 2, none⟩ (.int .u32 0)).heap[Zb]? = some (.cells #[.int .i64 (s : Nat), .int .i64 (g1 + 1), .int .u32 0] 37 (0, 0))) := (heap_set_row (heap_set_row (heap_set_row (heap_set_row (heap_set_row HZX.out 0 _) 1 _) 2 _) 1 _) 2 _).trans rfl
            have HZ0 : Hid (w.heap.size ≤ Zb) := by have := HX.out.2; unfold Hid; omega
            have HO5 : Hid (Only2 p b w (((((wx4.setCell ⟨Zb, 0, none⟩ (.int .i64 (s : Nat))).setCell ⟨Zb, 1, none⟩ (.int .i64 g1)).setCell ⟨Zb, 2, none⟩ (.int .u32 0)).setCell ⟨Zb, 1, none⟩ (.int .i64 (g1 + 1))).setCell ⟨Zb, 2, none⟩ (.int .u32 0))) := (((((only2_below HOR.out HC4.out).setNew2 HZ0.out _).setNew2 HZ0.out _).setNew2 HZ0.out _).setNew2 HZ0.out _).setNew2 HZ0.out _
            clear HZX HCW HFW qf
            have HR5' : Hid (R12 (((((wx4.setCell ⟨Zb, 0, none⟩ (.int .i64 (s : Nat))).setCell ⟨Zb, 1, none⟩ (.int .i64 g1)).setCell ⟨Zb, 2, none⟩ (.int .u32 0)).setCell ⟨Zb, 1, none⟩ (.int .i64 (g1 + 1))).setCell ⟨Zb, 2, none⟩ (.int .u32 0)) R2 p pb b vB2 (.slice aW lW cW) (.slice aG lG cG) O2) := (HR2.out.below HC4.out).kept (by simp) fun g hg => by
              have hne : g ≠ Zb := fun e => HZ2.out (by rw [← e]; exact hg)
              rw [Below.heap_setCell _ _ _ _ hne, Below.heap_setCell _ _ _ _ hne, Below.heap_setCell _ _ _ _ hne, Below.heap_setCell _ _ _ _ hne, Below.heap_setCell _ _ _ _ hne]
            have HK5' : Hid ((((((wx4.setCell ⟨Zb, 0, none⟩ (.int .i64 (s : Nat))).setCell ⟨Zb, 1, none⟩ (.int .i64 g1)).setCell ⟨Zb, 2, none⟩ (.int .u32 0)).setCell ⟨Zb, 1, none⟩ (.int .i64 (g1 + 1))).setCell ⟨Zb, 2, none⟩ (.int .u32 0)).heap[w.heap.size]? = some (.cells #[.int .i64 h, .int .i64 q] 32 (0, 0))) := by
              have hne : w.heap.size ≠ Zb := by have := HX.out.2; omega
              unfold Hid
              rw [Below.heap_setCell _ _ _ _ hne, Below.heap_setCell _ _ _ _ hne, Below.heap_setCell _ _ _ _ hne, Below.heap_setCell _ _ _ _ hne, Below.heap_setCell _ _ _ _ hne]
              exact (HC4.out.block _ (lt_of_heap HKR.out)).trans HKR.out
            have HY5' : Hid ((((((wx4.setCell ⟨Zb, 0, none⟩ (.int .i64 (s : Nat))).setCell ⟨Zb, 1, none⟩ (.int .i64 g1)).setCell ⟨Zb, 2, none⟩ (.int .u32 0)).setCell ⟨Zb, 1, none⟩ (.int .i64 (g1 + 1))).setCell ⟨Zb, 2, none⟩ (.int .u32 0)).heap[w.heap.size + 1]? = some (.cells #[.int .i64 0, .int .i64 0, .int .u32 0] 37 (0, 0))) := by
              have hne : w.heap.size + 1 ≠ Zb := by have := HX.out.2; omega
              unfold Hid
              rw [Below.heap_setCell _ _ _ _ hne, Below.heap_setCell _ _ _ _ hne, Below.heap_setCell _ _ _ _ hne, Below.heap_setCell _ _ _ _ hne, Below.heap_setCell _ _ _ _ hne]
              exact (HC4.out.block _ (lt_of_heap HYR.out)).trans HYR.out
            go_upto_region 13 with fail
            clear x0 x1 x2 xf x3 x4 x5 q0 q1 q2 HZQ HQ4 HQg HZ0
            generalize ((((wx4.setCell ⟨Zb, 0, none⟩ (.int .i64 (s : Nat))).setCell ⟨Zb, 1, none⟩ (.int .i64 g1)).setCell ⟨Zb, 2, none⟩ (.int .u32 0)).setCell ⟨Zb, 1, none⟩ (.int .i64 (g1 + 1))).setCell ⟨Zb, 2, none⟩ (.int .u32 0) = w5 at *
            have HR5 : Hid (R12 w5 R2 p pb b vB2 (.slice aW lW cW) (.slice aG lG cG) O2) := HR5'
            have HK5 : Hid (w5.heap[w.heap.size]? = some (.cells #[.int .i64 h, .int .i64 q] 32 (0, 0))) := HK5'
            have HY5 : Hid (w5.heap[w.heap.size + 1]? = some (.cells #[.int .i64 0, .int .i64 0, .int .u32 0] 37 (0, 0))) := HY5'
            have HF5 : Hid (∀ W, Below w5.heap.size w5 W → Els encM 5 W (.slice aG lG cG) O.fresh) := fun W hb => by rw [← HFR.out]; exact (HR5.out.below hb).fresh
            have HNE : Hid (p ≠ Zb ∧ p ≠ w.heap.size + 1) := by
              have h1 := HX.out
              exact ⟨by omega, by omega⟩
            clear HR5' HK5' HY5' HR2 HKR HYR HZR HC4 HOR hwg HFR HX HZ2
            obtain ⟨⟨x0, x1, x2⟩, _⟩ := cells3' HZ5.out
            obtain ⟨k0, k1⟩ := cells2' HK5.out
            have c3 := HR5.out.cells.2.2.2
            have HPU : Hid (∀ W, Below w5.heap.size w5 W → Calls Tryz.prog 39 #[.slice aG lG cG, .agg #[.int .i64 h, .int .i64 q], .agg #[.int .i64 (s : Nat), .int .i64 (g1 + 1), .int .u32 0]] W fun e w' => ∃ u', e = .returned u' ∧ Els encM 5 w' u' (putL O.fresh (h, q) ((s : Int), g1 + 1, 0)) ∧ Below W.heap.size W w' ∧ ∀ g, u'.ownBlock = some g → W.heap.size ≤ g ∧ g < w'.heap.size) := fun W hb => refput12_any W _ O.fresh h q _ _ _ (HF5.out W hb) HL.out.2.2 HMF.out HMD.out
            go_upto_region 13 with fail
            go_cut [0] from 60 (fun s0' wx => s0' = .pointer (some ⟨p, 0, none⟩) ∧ ∃ R' vF', Hid (R12 wx R' p pb b vB2 (.slice aW lW cW) vF' { O2 with fresh := putL O.fresh (h, q) ((s : Int), g1 + 1, 0) }) ∧ Hid (More R R' w) ∧ Hid (Only2 p b w wx) ∧ Hid (¬ R' (w.heap.size + 1)) ∧ Hid (wx.heap[Zb]? = some (.cells #[.int .i64 (s : Nat), .int .i64 (g1 + 1), .int .u32 0] 37 (0, 0))) ∧ Hid (wx.heap[w.heap.size + 1]? = some (.cells #[.int .i64 0, .int .i64 0, .int .u32 0] 37 (0, 0))))
            case first =>
              go_wp2_with fail
              go_region_law (first
                | (go_simp; go_at_call 39; refine (HPU.out _ (Below.refl _ _).drew).mono ?_; rintro e w6 ⟨u6, rfl, hu6, hb6, hn6⟩
                   have HB6 : Hid (Below w5.heap.size w5 w6) := below_undrew hb6
                   have HU6 : Hid (Els encM 5 w6 u6 (putL O.fresh (h, q) ((s : Int), g1 + 1, 0)) ∧ ∀ g, u6.ownBlock = some g → w5.heap.size ≤ g ∧ g < w6.heap.size) := ⟨hu6, hn6⟩
                   obtain ⟨a6, c6, e6⟩ := hu6.shape
                   generalize (putL O.fresh (h, q) ((s : Int), g1 + 1, 0)).length = l6 at e6
                   subst e6
                   have HR6 : Hid (R12 w6 R2 p pb b vB2 (.slice aW lW cW) (.slice aG lG cG) O2) := HR5.out.below HB6.out
                   have c6' := HR6.out.cells.2.2.2
                   have f6 := HR6.out.frozen 3
                   clear hu6 hb6 hn6))
              all_goals
                go_wp2
                go_meet
                have HN6 : Hid (∀ g, (Value.slice a6 l6 c6).ownBlock = some g → ¬ R2 g ∧ g < w6.heap.size) := fun g hg => by
                  have h1 := HU6.out.2 g hg
                  exact ⟨fun e => by have := HR5.out.lt g e; omega, h1.2⟩
                exact ⟨rfl, _, _, HR6.out.setFresh HU6.out.1 HN6.out, fun g hg => hg.elim (fun e => HM2.out g e) fun e => .inr (Nat.le_trans (HO5.out).size (HU6.out.2 g e).1), only2_set (only2_below HO5.out HB6.out) _, (fun e => e.elim HYX.out fun e' => by have := (HU6.out.2 _ e').1; have := lt_of_heap HY5.out; omega), (Below.heap_setCell w6 _ _ _ (fun e => HNE.out.1 e.symm)).trans ((HB6.out.block _ (lt_of_heap HZ5.out)).trans HZ5.out), (Below.heap_setCell w6 _ _ _ (fun e => HNE.out.2 e.symm)).trans ((HB6.out.block _ (lt_of_heap HY5.out)).trans HY5.out)⟩
            case rest =>
              obtain ⟨rfl, R9, vF9, HR9, HM9, HO9, HN9, HZ9, HY9⟩ := hcut
              obtain ⟨⟨z0, z1, z2⟩, _⟩ := cells3' HZ9.out
              obtain ⟨⟨y0, y1, y2⟩, yf⟩ := cells3' HY9.out
              have f0 := yf 0
              have f1 := yf 1
              have f2 := yf 2
              clear yf
              go_wp2
              refine bodyPost_ret (v := .tuple #[.agg #[.int .i64 _, .int .i64 _, .int .u32 _], .int .i64 _]) (results_cell2 rfl rfl rfl (load_ent (set_three _ _ _ y0 y1 y2).1 (set_three _ _ _ y0 y1 y2).2.1 (set_three _ _ _ y0 y1 y2).2.2)) rfl ?_
              refine ⟨_, _, _, rfl, HRL.out, R9, _, _, vF9, (HR9.out.kept (by simp) fun g hg => ?_), HM9.out, ((HO9.out.setNew2 (Nat.le_succ _) _).setNew2 (Nat.le_succ _) _).setNew2 (Nat.le_succ _) _⟩
              have hne : g ≠ w.heap.size + 1 := fun e => HN9.out (by rw [← e]; exact hg)
              rw [Below.heap_setCell _ _ _ _ hne, Below.heap_setCell _ _ _ _ hne, Below.heap_setCell _ _ _ _ hne]
        · have HRL : Hid (PutRel O (h, q) O (0, 0, 0) 12) := .inr (.inr (.inl ⟨HRT.out, HFN.out, hfull, rfl, rfl, rfl⟩))
          have HR9 : Hid (R12 wt R p pb b vB vW (.slice aF lF cF) O) := hrt
          have HO9 : Hid (Only2 p b w wt) := Only2.trans HO4.out (only_only2 hot)
          have HYT : Hid (wt.heap[w.heap.size + 1]? = some (.cells #[.int .i64 0, .int .i64 0, .int .u32 0] 37 (0, 0))) := (hot.heap (lt_of_heap HY4.out) (by have := HX.out.1.2; omega)).trans HY4.out
          obtain ⟨⟨y0, y1, y2⟩, yf⟩ := cells3' HYT.out
          have f0 := yf 0
          have f1 := yf 1
          have f2 := yf 2
          clear yf hfull hrt hot HTK c0 HR4 HK4 HY4 HZ4 HO4 HFN HT0 HYT
          go_wp2
          refine bodyPost_ret (v := .tuple #[.agg #[.int .i64 _, .int .i64 _, .int .u32 _], .int .i64 _]) (results_cell2 rfl rfl rfl (load_ent (set_three _ _ _ y0 y1 y2).1 (set_three _ _ _ y0 y1 y2).2.1 (set_three _ _ _ y0 y1 y2).2.2)) rfl ?_
          refine ⟨O, (0, 0, 0), 12, rfl, HRL.out, R, _, _, _, (HR9.out.kept (by simp) fun g hg => ?_), More.refl _ _, ((HO9.out.setNew2 (Nat.le_succ _) _).setNew2 (Nat.le_succ _) _).setNew2 (Nat.le_succ _) _⟩
          have hne : g ≠ w.heap.size + 1 := fun e => by have := HRR.out g hg; omega
          rw [Below.heap_setCell _ _ _ _ hne, Below.heap_setCell _ _ _ _ hne, Below.heap_setCell _ _ _ _ hne]
end Go.Proofs.YtjhkcdnfnmglhaaGreatDoor

/- The document's overlay: Commit, over what Slots is to answer. (Written by wip/mk_ref12b.py.) -/
namespace Go.Proofs.YtjhkcdnfnmglhaaGreatDoor
open Go.RowKit
set_option linter.unusedVariables false
set_option maxRecDepth 20000

/-- What Slots answers. -/
def SlotsOk12 : Prop := ∀ (w : World) (v : Value) (l : List Md), Els encM 5 w v l → l.length ≤ 99 → (∀ m ∈ l, MdI m) → Calls Tryz.prog 43 #[v] w fun e w' => ∃ u, e = .returned u ∧ Nums w' u (slotsL l) ∧ Below w.heap.size w w' ∧ ∀ g, u.ownBlock = some g → w.heap.size ≤ g ∧ g < w'.heap.size

set_option maxHeartbeats 4000000 in
theorem refCommit12_of (HSO : SlotsOk12) (w : World) (R : Nat → Prop) (p pb b : Nat) (vB vW vF : Value) (O : Ov) (t : Int) (hR : R12 w R p pb b vB vW vF O) (hO : OvOk O t) (ht : t ≤ 1000000000000000) (hl : O.base.length ≤ 100 ∧ O.was.length ≤ 99 ∧ O.fresh.length ≤ 100) :
    Calls Tryz.prog 15 #[.pointer (some ⟨p, 0, none⟩)] w fun x w' => x = .returned (.tuple #[]) ∧ Step12 w w' R p pb b (commitO O) := by
  have HR : Hid (R12 w R p pb b vB vW vF O) := hR
  have HRR : Hid (∀ g, R g → g < w.heap.size) := hR.lt
  have HGG : Hid (GoodG O.n O.B (slotsL O.was)) := was_good hO
  have HN : Hid (O.n ≤ 65536) := hO.n2
  obtain ⟨aB, lB, cB, eB⟩ : ∃ a l c, vB = .slice a l c := by obtain ⟨a, c, e⟩ := hR.base.shape; exact ⟨a, _, c, e⟩
  subst eB
  obtain ⟨aW, lW, cW, eW⟩ : ∃ a l c, vW = .slice a l c := by obtain ⟨a, c, e⟩ := hR.was.shape; exact ⟨a, _, c, e⟩
  subst eW
  obtain ⟨aF, lF, cF, eF⟩ : ∃ a l c, vF = .slice a l c := by obtain ⟨a, c, e⟩ := hR.fresh.shape; exact ⟨a, _, c, e⟩
  subst eF
  have HSL : Hid (∀ W, Below w.heap.size w W → Calls Tryz.prog 43 #[.slice aW lW cW] W fun e w' => ∃ u, e = .returned u ∧ Nums w' u (slotsL O.was) ∧ Below W.heap.size W w' ∧ ∀ g, u.ownBlock = some g → W.heap.size ≤ g ∧ g < w'.heap.size) := fun W hb => HSO W _ _ (hR.below hb).was hl.2.1 (hO.mdW ht)
  have HGV : Hid (∀ W v, Below w.heap.size w W → Nums W v (slotsL O.was) → v.ownBlock ≠ some b → Calls Tryz.prog 41 #[.pointer (some ⟨pb, 0, none⟩), v] W fun x w' => x = .returned (.int .i64 0) ∧ R12 w' R p pb b (.slice aB lB cB) (.slice aW lW cW) (.slice aF lF cF) { O with B := giveB O.B (slotsL O.was) } ∧ Only b W w') := fun W v hb hv hne => by
    have hr := HR.out.below hb
    refine (refGive_any W pb b O.n O.B v (slotsL O.was) hr.board HN.out hv (fun _ => hne)).mono ?_
    rintro x w' ⟨⟨_, hx, hb'⟩ | ⟨hg, _⟩, ho⟩
    · exact ⟨hx, hr.setBoard ho hb', ho⟩
    · exact absurd HGG.out hg
  have HAP0 : Hid (∀ W, Els encM 5 W (.slice aB lB cB) O.base → Els encM 5 W (.slice aF lF cF) O.fresh → Calls Tryz.prog 19 #[.slice aB lB cB, .slice aF lF cF, .slice none 0 0] W fun e w' => ∃ u', e = .returned u' ∧ Els encM 5 w' u' (applyM O.base O.fresh []) ∧ Below W.heap.size W w' ∧ ∀ g, u'.ownBlock = some g → W.heap.size ≤ g ∧ g < w'.heap.size) := fun W h1 h2 => refApply11_new W _ _ _ O.base O.fresh [] h1 h2 (Keys.nil _) hl.1 hl.2.2 (hO.mdB ht) (hO.mdF ht)
  have c0 := hR.cells.1
  have c2 := hR.cells.2.2.1
  have HB0 : Hid (b < w.heap.size) := hR.lt b hR.inP.2.2
  clear HSO hR hO ht hl HGG HN HRR
  go_enter Tryz.func15, Tryz.ntmps15
  go_upto_region 0 with fail
  go_cut [0] from 12 (fun s0' wx => s0' = .pointer (some ⟨p, 0, none⟩) ∧ Hid (R12 wx R p pb b (.slice aB lB cB) (.slice aW lW cW) (.slice aF lF cF) { O with B := giveB O.B (slotsL O.was) }) ∧ Hid (Only2 p b w wx))
  case first =>
    go_wp2_with fail
    go_region_law (first
      | (go_simp; go_at_call 41; refine (HGV.out _ _ HB7.out HU7.out.1 (fun e => by have := (HU7.out.2 _ e).1; have := HB0.out; omega)).mono ?_; rintro e w5 ⟨rfl, hr5, ho5⟩
         have HR5 : Hid (R12 w5 R p pb b (.slice aB lB cB) (.slice aW lW cW) (.slice aF lF cF) { O with B := giveB O.B (slotsL O.was) }) := hr5
         have HO5 : Hid (Only2 p b w w5) := Only2.trans (Kept.ofBelow HB7.out fun _ hk => hk.1) (only_only2 ho5)
         clear hr5 ho5)
      | (go_simp; go_at_call 43; refine (HSL.out _ (Below.refl _ _).drew).mono ?_; rintro e w7 ⟨u7, rfl, hu7, hb7, hn7⟩
         have HB7 : Hid (Below w.heap.size w w7) := below_undrew hb7
         have HU7 : Hid (Nums w7 u7 (slotsL O.was) ∧ ∀ g, u7.ownBlock = some g → w.heap.size ≤ g ∧ g < w7.heap.size) := ⟨hu7, hn7⟩
         have c7 := (HR.out.below HB7.out).cells.1
         clear hu7 hb7 hn7))
    all_goals
      go_wp2
      go_meet
      exact ⟨rfl, HR5.out, HO5.out⟩
  case rest =>
    obtain ⟨rfl, HR6, HO6⟩ := hcut
    have HAP : Hid (∀ W, Below wc.heap.size wc W → Calls Tryz.prog 19 #[.slice aB lB cB, .slice aF lF cF, .slice none 0 0] W fun e w' => ∃ u', e = .returned u' ∧ Els encM 5 w' u' (applyM O.base O.fresh []) ∧ Below W.heap.size W w' ∧ ∀ g, u'.ownBlock = some g → W.heap.size ≤ g ∧ g < w'.heap.size) := fun W hb => HAP0.out W (HR6.out.below hb).base (HR6.out.below hb).fresh
    have d1 := HR6.out.cells.2.1
    have d3 := HR6.out.cells.2.2.2
    clear HAP0 HGV HSL c0 c2
    go_wp2_with fail
    go_region_law (first
      | (go_simp; go_at_call 19; refine (HAP.out _ (Below.refl _ _).drew).mono ?_; rintro e w8 ⟨u8, rfl, hu8, hb8, hn8⟩
         have HB8 : Hid (Below wc.heap.size wc w8) := below_undrew hb8
         have HU8 : Hid (Els encM 5 w8 u8 (applyM O.base O.fresh []) ∧ ∀ g, u8.ownBlock = some g → wc.heap.size ≤ g ∧ g < w8.heap.size) := ⟨hu8, hn8⟩
         obtain ⟨a8, c8, e8⟩ := hu8.shape
         generalize (applyM O.base O.fresh []).length = l8 at e8
         subst e8
         have HR8 : Hid (R12 w8 R p pb b (.slice aB lB cB) (.slice aW lW cW) (.slice aF lF cF) { O with B := giveB O.B (slotsL O.was) }) := HR6.out.below HB8.out
         have c81 := HR8.out.cells.2.1
         have c82 := HR8.out.cells.2.2.1
         have c83 := HR8.out.cells.2.2.2
         have f81 := HR8.out.frozen 1
         have f82 := HR8.out.frozen 2
         have f83 := HR8.out.frozen 3
         clear hu8 hb8 hn8))
    all_goals
      go_wp2
      go_end0
      have HN8 : ∀ g, (Value.slice a8 l8 c8).ownBlock = some g → ¬ R g ∧ g < w8.heap.size := fun g hg => by
        have h1 := HU8.out.2 g hg
        exact ⟨fun e => by have := HR6.out.lt g e; omega, h1.2⟩
      have h1 := HR8.out.setBase HU8.out.1 HN8
      have h2 := h1.setWas (Els.nil _) (v := .slice none 0 0) (fun g hg => by simp [Value.ownBlock] at hg)
      have h3 := h2.setFresh (Els.nil _) (v := .slice none 0 0) (fun g hg => by simp [Value.ownBlock] at hg)
      refine ⟨rfl, _, _, _, _, h3, fun g hg => ?_, only2_set (only2_set (only2_set (only2_below HO6.out HB8.out) _) _) _⟩
      rcases hg with ((hg | hg) | hg) | hg
      · exact .inl hg
      · exact .inr (Nat.le_trans HO6.out.size (HU8.out.2 g hg).1)
      · simp [Value.ownBlock] at hg
      · simp [Value.ownBlock] at hg
end Go.Proofs.YtjhkcdnfnmglhaaGreatDoor

/- The document's overlay: New. -/
namespace Go.Proofs.YtjhkcdnfnmglhaaGreatDoor
open Go.RowKit
set_option linter.unusedVariables false
set_option maxRecDepth 20000

/-- The slots of a list, in its order. -/
def slotsOf (l : List Md) : List Int := l.map Md.s
theorem slotsOf_step {l : List Md} {k : Nat} {m : Md} (h : l[k]? = some m) : slotsOf (l.take k) ++ [m.s] = slotsOf (l.take (k + 1)) := by
  unfold slotsOf
  obtain ⟨hk, e⟩ := List.getElem?_eq_some_iff.1 h
  rw [List.take_succ_eq_append_getElem hk, List.map_append, List.map_singleton, e]
/-- What New makes. -/
def newO (n : Nat) (l : List Md) : Ov := ⟨n, takenB (slotsOf l), l, [], []⟩
/-- What New leaves: its object is new, but for the list that it keeps. -/
def New12R (w : World) (n : Nat) (v : Value) (l : List Md) (x : Ending) (w' : World) : Prop :=
  Below w.heap.size w w' ∧ (∃ R p pb b, x = .returned (.pointer (some ⟨p, 0, none⟩)) ∧ R12 w' R p pb b v (.slice none 0 0) (.slice none 0 0) (newO n l) ∧ ∀ g, R g → w.heap.size ≤ g ∨ OwnsL l v g)

set_option maxHeartbeats 4000000 in
theorem refNew12_good (w : World) (n : Nat) (v : Value) (l : List Md) (hv : Els encM 5 w v l) (hl : l.length ≤ 100) (hm : ∀ m ∈ l, MdI m) (hn1 : 1 ≤ n) (hn : n ≤ 65536) (hr : rightM n l = true) (hg : Good n (slotsOf l)) :
    Calls Tryz.prog 7 #[.int .i64 (n : Nat), v] w fun x w' => New12R w n v l x w' := by
  obtain ⟨i0, hi, hz0, hz1, hz2⟩ := info_parts Tryz.infoI64
  obtain ⟨a, ca, rfl⟩ := hv.shape
  obtain ⟨L, hL⟩ : ∃ L, L = l.length := ⟨_, rfl⟩
  rw [← hL] at hv hl ⊢
  have HL : Hid (L = l.length) := hL
  have HV : Hid (Els encM 5 w (.slice a L ca) l) := hv
  have HM : Hid (∀ m ∈ l, MdI m) := hm
  have HG : Hid (Good n (slotsOf l)) := hg
  have HOWN : Hid (∀ g, OwnsL l (Value.slice a L ca) g → g < w.heap.size) := fun g h0 => by
    obtain ⟨b, off, rfl, hb, -⟩ := hv.addr (by have := List.length_pos_iff.2 h0.1; omega)
    have h1 := h0.2
    simp only [Value.ownBlock, Option.some.injEq] at h1
    omega
  have HRI : Hid (Calls Tryz.prog 30 #[.int .i64 (n : Nat), .slice a L ca] w fun e w' => e = .returned (.bool true) ∧ Below w.heap.size w w') := by
    have := refRight11_any w _ l n HV.out (by omega)
    rwa [hr] at this
  clear hL hv hm hr hg
  go_enter Tryz.func7, Tryz.ntmps7
  go_wp2_with fail
  refine HRI.out.mono ?_
  rintro e W ⟨rfl, hbW⟩
  have HBW : Hid (Below w.heap.size w W) := hbW
  clear hbW HRI
  go_wp2_with fail
  go_loopw [5, 6] (fun u i wr => ∃ k : Nat, i = .int .i64 (k : Nat) ∧ k ≤ L ∧ Hid (wr.ownsRow w.heap.size 3 1 u k (nums (slotsOf (l.take k)))) ∧ Hid (Below w.heap.size w wr)) (fun _ i _ => L - (intOf i).toNat)
  case atStart => exact ⟨0, rfl, Nat.zero_le _, World.ownsRow_nil _ _ _ _, HBW.out⟩
  case round =>
    obtain ⟨k, rfl, hk, hOw, hBe⟩ := hrel
    have HSZ : Hid (w.heap.size ≤ wr.heap.size) := hBe.out.size
    by_cases hlt : k < L
    · obtain ⟨b, off, rfl, hb, hc⟩ := (HV.out.kept hBe.out).md (by omega)
      obtain ⟨mh, mp, ms, mg, mu, hkk⟩ := md_at (xs := l) (j := k) (by rw [← HL.out]; exact hlt)
      obtain ⟨c0, c1, c2, c3, c4⟩ := hc k _ hkk
      have hms : I64 ms := (HM.out _ (List.mem_of_getElem? hkk)).2.2.1
      have HF : Hid (slotsOf (l.take k) ++ [ms] = slotsOf (l.take (k + 1))) := slotsOf_step hkk
      clear hc hkk c0 c1 c3 c4
      go_wp2_with (at_builtin; (refine wpList_append_nums _ rfl _ _ 63 rfl w.heap.size 3 i0 Tryz.underlying63 hi hz0 hz1 hz2 _ k (slotsOf (l.take k)) rfl (hOw.out.alloc _) _ [ms] rfl (Nums.one hms) ?d1 ?d2 ?_; (case d1 => simp; omega); (case d2 => simp; exact Nat.le_succ_of_le HSZ.out); intro v7 w7 hown7 hg7 _; rw [HF.out] at hown7; have HO7 : Hid (w7.ownsRow w.heap.size 3 1 v7 (k + 1) (nums (slotsOf (l.take (k + 1))))) := hown7; have HB7 : Hid (Below w.heap.size w w7) := grewAny (hBe.out.alloc HSZ.out _) (hOw.out.alloc _) hg7 (by simp; exact Nat.le_succ_of_le HSZ.out); clear hown7 hg7))
      go_roundw
      case rel => exact ⟨k + 1, by go_num, by omega, HO7, HB7⟩
      case measure => simp [intOf]; omega
    · obtain rfl : k = L := by omega
      have HTK : Hid (slotsOf (l.take k) = slotsOf l) := by unfold Hid; rw [HL.out, List.take_length]
      rw [HTK.out] at hOw
      have HNU : Hid (∀ u5, wr.ownsRow w.heap.size 3 1 u5 k (nums (slotsOf l)) → Nums wr u5 (slotsOf l)) := fun u5 ho => Nums.ofOwn ho fun z hz => by
        obtain ⟨m, hm, rfl⟩ := List.mem_map.1 hz
        exact (HM.out m hm).2.2.1
      have HNW : Hid (∀ u5, wr.ownsRow w.heap.size 3 1 u5 k (nums (slotsOf l)) → Calls Tryz.prog 31 #[.int .i64 (n : Nat), u5] wr fun x w' => ∃ pb b, x = .returned (.pointer (some ⟨pb, 0, none⟩)) ∧ (w.heap.size ≤ pb ∧ w.heap.size ≤ b) ∧ RefB w' pb b n (takenB (slotsOf l)) ∧ Below w.heap.size w w') := fun u5 ho => by
        refine (refNew9_new wr n u5 (slotsOf l) hn1 hn (HNU.out u5 ho)).mono ?_
        rintro x w' ⟨hb, ⟨_, pb, b, hx, h1, h2⟩ | ⟨h, _⟩⟩
        · exact ⟨pb, b, hx, ⟨Nat.le_trans HSZ.out h1.1, Nat.le_trans HSZ.out h1.2⟩, h2, hBe.out.trans (hb.mono HSZ.out)⟩
        · exact absurd HG.out h
      have HNO := HNW.out _ hOw.out
      clear HNW HNU hOw HTK
      go_wp2_with fail
      refine HNO.mono ?_
      rintro e w9 ⟨pb, b, rfl, hpb, hrb, hb9⟩
      have HPB : Hid (w.heap.size ≤ pb ∧ w.heap.size ≤ b) := hpb
      have HRB : Hid (RefB w9 pb b n (takenB (slotsOf l))) := hrb
      have HB9 : Hid (Below w.heap.size w w9) := hb9
      clear hpb hrb hb9 HNO
      go_wp2
      go_ret
      have hbA : Below w9.heap.size w9 (w9.alloc (.cells #[.pointer (some ⟨pb, 0, none⟩), .slice a k ca, .slice none 0 0, .slice none 0 0] 51)) := (Below.refl _ _).alloc (Nat.le_refl _) _
      have hbW : Below w.heap.size w (w9.alloc (.cells #[.pointer (some ⟨pb, 0, none⟩), .slice a k ca, .slice none 0 0, .slice none 0 0] 51)) := HB9.out.trans (hbA.mono HB9.out.size)
      have h9 := HB9.out.size
      have hp := HRB.out.p_lt
      have hbl := lt_of_heap HRB.out.body
      have h2 := HPB.out
      refine ⟨hbW, fun g => g = w9.heap.size ∨ g = pb ∨ g = b ∨ OwnsL l (Value.slice a k ca) g, w9.heap.size, pb, b, rfl, ?_, fun g hg => ?_⟩
      · exact
          { head := heap_alloc_new w9 _
            board := HRB.out.below hbA
            base := HV.out.kept hbW
            was := Els.nil _
            fresh := Els.nil _
            inP := ⟨.inl rfl, .inr (.inl rfl), .inr (.inr (.inl rfl))⟩
            own := fun g hg => by
              rcases hg with hg | hg | hg
              · have := HOWN.out g hg
                exact ⟨.inr (.inr (.inr hg)), by omega, by omega⟩
              · exact absurd rfl hg.1
              · exact absurd rfl hg.1
            lt := fun g hg => by
              have hs := lt_of_heap (heap_alloc_new w9 (.cells #[.pointer (some ⟨pb, 0, none⟩), .slice a k ca, .slice none 0 0, .slice none 0 0] 51))
              rcases hg with rfl | rfl | rfl | hg
              · exact hs
              · omega
              · omega
              · have := HOWN.out g hg
                omega }
      · rcases hg with rfl | rfl | rfl | hg
        · exact .inl h9
        · exact .inl h2.1
        · exact .inl h2.2
        · exact .inr hg

set_option maxHeartbeats 4000000 in
/-- Where the count is out of range, or the list is not right, there is none. -/
theorem refNew12_off (w : World) (n : Int) (v : Value) (hn : n < 1 ∨ 65536 < n) :
    Calls Tryz.prog 7 #[.int .i64 n, v] w fun x w' => x = .returned (.pointer none) ∧ w' = w := by
  by_cases h : n < 1
  · go_enter Tryz.func7, Tryz.ntmps7
    go_wp2
    go_ret
    exact ⟨rfl, rfl⟩
  · have h2 : 65536 < n := by omega
    clear hn
    go_enter Tryz.func7, Tryz.ntmps7
    go_wp2
    go_ret
    exact ⟨rfl, rfl⟩
set_option maxHeartbeats 4000000 in
theorem refNew12_bad (w : World) (n : Int) (v : Value) (l : List Md) (hv : Els encM 5 w v l) (hl : l.length ≤ 100) (hn1 : 1 ≤ n) (hn : n ≤ 65536) (hr : rightM n l = false) :
    Calls Tryz.prog 7 #[.int .i64 n, v] w fun x w' => x = .returned (.pointer none) ∧ Below w.heap.size w w' := by
  have HRI : Hid (Calls Tryz.prog 30 #[.int .i64 n, v] w fun e w' => e = .returned (.bool false) ∧ Below w.heap.size w w') := by
    have := refRight11_any w v l n hv (by omega)
    rwa [hr] at this
  have h1 : ¬ n < 1 := by omega
  have h2 : ¬ 65536 < n := by omega
  clear hv hl hr hn1 hn
  go_enter Tryz.func7, Tryz.ntmps7
  go_wp2_with fail
  refine HRI.out.mono ?_
  rintro e W ⟨rfl, hbW⟩
  have HBW : Hid (Below w.heap.size w W) := hbW
  clear hbW HRI
  go_wp2
  go_ret
  exact ⟨rfl, HBW.out⟩
end Go.Proofs.YtjhkcdnfnmglhaaGreatDoor

/- A right list is an overlay's base. -/
namespace Go.Proofs.YtjhkcdnfnmglhaaGreatDoor
open Go.RowKit
set_option linter.unusedVariables false

theorem right_step {n : Int} {l : List Md} (h : rightM n l = true) {j : Nat} {m : Md} (hj : l[j]? = some m) : okM n m = true ∧ aheadM l j m = true ∧ freshM (l.take j) m = true := by
  unfold rightM at h
  rw [List.all_eq_true] at h
  have hl := (List.getElem?_eq_some_iff.1 hj).1
  have := h j (List.mem_range.2 hl)
  unfold stepM at this
  rw [hj] at this
  simp only [Bool.and_eq_true] at this
  exact ⟨this.1.1, this.1.2, this.2⟩
theorem right_rise {n : Int} {l : List Md} (h : rightM n l = true) : Rise l := by
  unfold Rise
  rw [List.pairwise_map, List.pairwise_iff_getElem]
  intro i j hi hj hij
  induction j with
  | zero => omega
  | succ j ih =>
    have hs : KLt l[j].k l[j + 1].k := by
      have := (right_step h (List.getElem?_eq_getElem hj)).2.1
      unfold aheadM at this
      simp only [List.getElem?_eq_getElem (show j < l.length by omega)] at this
      exact of_decide_eq_true this
    rcases Nat.lt_or_ge i j with hl | hl
    · exact (ih (by omega) hl).trans hs
    · have e : i = j := by omega
      subst e
      exact hs
theorem right_good {n : Nat} {l : List Md} (h : rightM (n : Int) l = true) : Good n (slotsOf l) := by
  constructor
  · unfold slotsOf
    rw [List.nodup_iff_pairwise_ne, List.pairwise_map, List.pairwise_iff_getElem]
    intro i j hi hj hij
    have := (right_step h (List.getElem?_eq_getElem hj)).2.2
    unfold freshM at this
    rw [List.all_eq_true] at this
    have hm : l[i] ∈ l.take j := List.mem_take_iff_getElem.2 ⟨i, by omega, rfl⟩
    simpa using this _ hm
  · intro z hz
    obtain ⟨m, hm, rfl⟩ := List.mem_map.1 hz
    obtain ⟨j, hj⟩ := List.getElem?_of_mem hm
    have := (right_step h hj).1
    unfold okM at this
    simp only [Bool.and_eq_true, decide_eq_true_eq] at this
    exact ⟨this.2.1, this.2.2.1⟩
theorem new_has {n : Nat} {l : List Md} {c : Nat} {k : Ky} {e : Ent} (h : (newO n l).Has c k e) : c = 0 ∧ findM l k = some e := by
  obtain ⟨hc, h⟩ := h
  match c, hc, h with
  | 0, hc, h => exact ⟨rfl, h⟩
  | 1, hc, h => cases h
  | 2, hc, h => cases h
theorem right_ok {n : Nat} {l : List Md} (h : rightM (n : Int) l = true) (hn1 : 1 ≤ n) (hn : n ≤ 65536) (hu : ∀ m ∈ l, m.u < 4294967296) : OvOk (newO n l) 281474976710655 where
  n1 := hn1
  n2 := hn
  rb := right_rise h
  rw := Rise.nil
  rf := Rise.nil
  tail := fun i hi => by
    show (slotsOf l).contains (i : Int) = false
    rw [List.contains_eq_mem, decide_eq_false_iff_not]
    intro hm
    have hi' : n ≤ i := hi
    have := ((right_good h).2 _ hm).2
    omega
  one := fun c k e c' k' e' h1 h2 he => by
    obtain ⟨rfl, g1⟩ := new_has h1
    obtain ⟨rfl, g2⟩ := new_has h2
    refine ⟨rfl, ?_⟩
    have hnd : (l.map Md.s).Nodup := (right_good h).1
    have m1 := find_mem g1
    have m2 := find_mem g2
    obtain ⟨i, hi⟩ := List.getElem?_of_mem m1
    obtain ⟨j, hj⟩ := List.getElem?_of_mem m2
    have hi2 := (List.getElem?_eq_some_iff.1 hi)
    have hj2 := (List.getElem?_eq_some_iff.1 hj)
    have e1 : (l.map Md.s)[i]? = (l.map Md.s)[j]? := by rw [List.getElem?_map, List.getElem?_map, hi, hj]; exact congrArg some he
    have hij : i = j := (List.getElem?_inj (by simpa using hi2.1) hnd).1 e1
    subst hij
    rw [hi] at hj
    simp only [Option.some.injEq, md, Md.mk.injEq] at hj
    exact Prod.ext hj.1 hj.2.1
  taken := fun i => by
    show (slotsOf l).contains (i : Int) = true ↔ _
    rw [List.contains_eq_mem, decide_eq_true_eq]
    constructor
    · intro hm
      obtain ⟨m, hm, e⟩ := List.mem_map.1 hm
      exact ⟨0, m.k, (m.s, m.g, m.u), ⟨by decide, mem_find (right_rise h).nodup hm⟩, e⟩
    · rintro ⟨c, k, e, hh, he⟩
      exact List.mem_map.2 ⟨_, find_mem (new_has hh).2, he⟩
  range := fun c k e hh => by
    have hm : e.1 ∈ slotsOf l := List.mem_map.2 ⟨_, find_mem (new_has hh).2, rfl⟩
    have := (right_good h).2 _ hm
    exact ⟨e.1.toNat, by omega, by show e.1.toNat < n; omega⟩
  apart := fun k e _ => ⟨rfl, rfl⟩
  fit := fun c k e hh => by
    have hm := find_mem (new_has hh).2
    obtain ⟨j, hj⟩ := List.getElem?_of_mem hm
    have := (right_step h hj).1
    unfold okM at this
    simp only [Bool.and_eq_true, decide_eq_true_eq] at this
    exact ⟨this.1, this.2.2.2.1, this.2.2.2.2, hu _ hm⟩
end Go.Proofs.YtjhkcdnfnmglhaaGreatDoor

/- Contract of overlay.New. -/
namespace Go.Proofs.YtjhkcdnfnmglhaaGreatDoor
open Go.RowKit Go.Maps
set_option linter.unusedVariables false
set_option maxRecDepth 20000

theorem slots_alike {l : List Md} {y : Int} : y ∈ slotsL l ↔ y ∈ slotsOf l := by
  rw [slots_mem]
  simp [slotsOf]
theorem taken_alike (l : List Md) : takenB (slotsL l) = takenB (slotsOf l) := by
  funext i
  unfold takenB
  rw [Bool.eq_iff_iff, List.contains_iff_mem, List.contains_iff_mem, slots_alike]
theorem good_alike {n : Nat} {l : List Md} (h : Good n (slotsOf l)) : Good n (slotsL l) :=
  ⟨slots_nodup h.1, fun z hz => h.2 z (slots_alike.1 hz)⟩
theorem layL_all {l : List Md} (h : Rise l) : layL [] l = l :=
  rise_ext (layL_rise Rise.nil l) h fun k => by
    rw [layL_find h.nodup]
    cases findM l k <;> rfl
theorem layL_take {l : List Md} {k : Nat} {m : Md} (h : l[k]? = some m) : layL [] (l.take (k + 1)) = putL (layL [] (l.take k)) m.k (m.s, m.g, m.u) := by
  rw [take_snocA h, ← layL_snoc, md_self]
/-- All blocks that a call on it may turn are new. -/
def OvNewB (s : OvB) (b : Nat) : Prop := b ≤ s.b ∧ b ≤ s.f ∧ b ≤ s.X ∧ b ≤ s.Y ∧ b ≤ s.Z
def NewOv (w : World) (n : Int) (l : List Md) (x : Ending) (w' : World) : Prop :=
  Below w.heap.size w w' ∧ ((1 ≤ n ∧ n ≤ 65536 ∧ rightM n l = true ∧ ∃ q s, x = .returned (.tuple #[.pointer (some ⟨q, 0, none⟩), .int .i64 0]) ∧ OvAt w' q s (newO n.toNat l) ∧ OvNewB s w.heap.size ∧ w.heap.size ≤ q) ∨
    (¬ (1 ≤ n ∧ n ≤ 65536 ∧ rightM n l = true) ∧ x = .returned (.tuple #[.pointer none, .int .i64 2])))
theorem new3 (W : World) (o1 o2 o3 : Obj) : (((W.alloc o1).alloc o2).alloc o3).heap[W.heap.size]? = some o1 ∧ (((W.alloc o1).alloc o2).alloc o3).heap[W.heap.size + 1]? = some o2 ∧ (((W.alloc o1).alloc o2).alloc o3).heap[W.heap.size + 2]? = some o3 := by
  have s1 : (W.alloc o1).heap.size = W.heap.size + 1 := by simp
  have s2 : ((W.alloc o1).alloc o2).heap.size = W.heap.size + 2 := by simp
  have b2 : Below (W.alloc o1).heap.size (W.alloc o1) ((W.alloc o1).alloc o2) := (Below.refl _ _).alloc (Nat.le_refl _) _
  have b3 : Below ((W.alloc o1).alloc o2).heap.size ((W.alloc o1).alloc o2) (((W.alloc o1).alloc o2).alloc o3) := (Below.refl _ _).alloc (Nat.le_refl _) _
  have h1 := heap_alloc_new W o1
  have h2 := heap_alloc_new (W.alloc o1) o2
  have h3 := heap_alloc_new ((W.alloc o1).alloc o2) o3
  rw [s1] at h2
  rw [s2] at h3
  exact ⟨(b3.block _ (by omega)).trans ((b2.block _ (by omega)).trans h1), (b3.block _ (by omega)).trans h2, h3⟩
theorem map_empty {w : World} {b : Nat} (h : w.heap[b]? = some (.map #[] 0)) : MapL w b [] :=
  ⟨_, ⟨#[], 0, h, ⟨by simp, Go.MapKept.stamped_empty 0, by simp⟩, Nat.le_refl _, rfl⟩, EntL.nil⟩
set_option maxHeartbeats 4000000 in
theorem new12_any (w : World) (n : Int) (v : Value) (l : List Md) (hv : Els encM 5 w v l) (hl : l.length ≤ 490) (hm : ∀ m ∈ l, MdI m) (ht : Steps w) (hn64 : I64 n) :
    Calls Tryz.prog 6 #[.int .i64 n, v] w fun x w' => NewOv w n l x w' := by
  obtain ⟨a, ca, rfl⟩ := hv.shape
  obtain ⟨L, hL⟩ : ∃ L, L = l.length := ⟨_, rfl⟩
  have HRI : Hid (Calls Tryz.prog 27 #[.int .i64 n, .slice a l.length ca] w fun e w' => e = .returned (.bool (rightM n l)) ∧ Below w.heap.size w w') := right11_any w _ l n hv hm (by omega)
  rw [← hL] at hv hl HRI ⊢
  have HL : Hid (L = l.length) := hL
  have HV : Hid (Els encM 5 w (.slice a L ca) l) := hv
  have HM : Hid (∀ m ∈ l, MdI m) := hm
  have HT : Hid (Steps w) := ht
  have HNI : Hid (I64 n) := hn64
  clear hL hv hm ht hn64
  rcases hr : rightM n l with _ | _
  · rw [hr] at HRI
    have HNO : Hid (¬ (1 ≤ n ∧ n ≤ 65536 ∧ rightM n l = true)) := fun h => by rw [hr] at h; exact absurd h.2.2 (by simp)
    clear hr
    go_enter Tryz.func6, Tryz.ntmps6
    go_wp2_with fail
    refine HRI.out.mono ?_
    rintro e w1 ⟨rfl, hb⟩
    have HB : Hid (Below w.heap.size w w1) := hb
    clear hb
    go_wp2
    refine bodyPost_ret (results_tmp2 rfl _ _ _) rfl ?_
    exact ⟨HB.out, .inr ⟨HNO.out, rfl⟩⟩
  · rw [hr] at HRI
    have HR : Hid (rightM n l = true) := hr
    have HRS : Hid (Rise l) := right_rise hr
    have hmm := @run_makeMap Tryz.prog
    clear hr
    go_enter Tryz.func6, Tryz.ntmps6
    go_wp2_with fail
    refine HRI.out.mono ?_
    rintro e w1 ⟨rfl, hb1⟩
    have HB1 : Hid (Below w.heap.size w w1) := hb1
    have HM0 : Hid (MapL (w1.alloc (.map #[] 0)) w1.heap.size (layL [] (l.take 0))) := MapL.made w1
    have HB2 : Hid (Below w.heap.size w (w1.alloc (.map #[] 0))) := hb1.alloc hb1.size _
    have HXL : Hid (w.heap.size ≤ w1.heap.size) := hb1.size
    clear hb1 HRI
    go_wp2_with fail
    generalize w1.heap.size = X at *
    generalize w1.alloc (.map #[] 0) = w2 at *
    go_loopw [18] (fun i wr => ∃ k : Nat, i = .int .i64 (k : Nat) ∧ k ≤ L ∧ Hid (MapL wr X (layL [] (l.take k))) ∧ Hid (Below w.heap.size w wr)) (fun i _ => L - (intOf i).toNat)
    case atStart => exact ⟨0, rfl, Nat.zero_le _, HM0.out, HB2.out⟩
    case round =>
      obtain ⟨k, rfl, hk, HMk, HB⟩ := hrel
      by_cases hlt : k < L
      · obtain ⟨b, off, rfl, hb, hc⟩ := (HV.out.kept HB.out).md (by omega)
        obtain ⟨mh, mp, ms, mg, mu, hkk⟩ := md_at (xs := l) (j := k) (by rw [← HL.out]; exact hlt)
        obtain ⟨c0, c1, c2, c3, c4⟩ := hc k _ hkk
        have HF : Hid (layL [] (l.take (k + 1)) = putL (layL [] (l.take k)) (mh, mp) (ms, mg, mu)) := layL_take hkk
        have HKI : Hid (KI (mh, mp)) := ⟨(HM.out _ (List.mem_of_getElem? hkk)).1, (HM.out _ (List.mem_of_getElem? hkk)).2.1⟩
        clear hc hb hkk
        have hW : Below wr.heap.size wr (wr.alloc (.cells #[.int .i64 mh, .int .i64 mp, .int .i64 ms, .int .i64 mg, .int .u32 (mu : Nat)] 56)) := (Below.refl _ _).alloc (Nat.le_refl _) _
        obtain ⟨d0, d1, d2, d3, d4⟩ := new_five wr (.int .i64 mh) (.int .i64 mp) (.int .i64 ms) (.int .i64 mg) (.int .u32 (mu : Nat)) 56
        obtain ⟨w3, hup, hm2, hg2⟩ := (HMk.out.kept hW).put (by have h1 := layL_len Rise.nil (l.take k); rw [List.length_take] at h1; simp at h1; omega) HKI.out (ms, mg, mu)
        have HB3 : Hid (Below w.heap.size w w3) := (HB.out.trans (hW.mono HB.out.size)).grown hg2 (by have := HB.out.size; have := hW.size; omega) (fun j hj => by cases hj; exact HXL.out)
        have HM3 : Hid (MapL w3 X (layL [] (l.take (k + 1)))) := by rw [HF.out]; exact hm2
        simp only at hup
        clear hm2 hg2 hW HF HKI HMk HB
        go_wp2_with fail
        go_roundw
        case rel => exact ⟨k + 1, by go_num, by omega, HM3.out, HB3.out⟩
        case measure => simp [intOf]; omega
      · have hkL : k = L := by omega
        have HMX : Hid (MapL wr X l) := by
          have := HMk.out
          rw [hkL, List.take_of_length_le (by rw [HL.out]; exact Nat.le_refl _), layL_all HRS.out] at this
          exact this
        have HPL := places12_any wr X l HMX.out (by rw [← HL.out]; omega) (fun m hm => (HM.out m hm).2.2.1)
        clear HMk HM0 HB2 hkL hk
        go_wp2_with fail
        clear hlt
        refine HPL.mono ?_
        rintro e w4 ⟨u, rfl, hn4, hb4, -⟩
        have HN4 : Hid (Nums w4 u (slotsL l)) := hn4
        have HB4 : Hid (Below w.heap.size w w4) := HB.out.trans (hb4.mono HB.out.size)
        have HM4 : Hid (MapL w4 X l) := HMX.out.kept hb4
        have HT4 : Hid (Steps w4) := HT.out.below HB4.out
        clear hn4 hb4 HPL
        by_cases hin : 1 ≤ n ∧ n ≤ 65536
        · obtain ⟨N, rfl⟩ : ∃ N : Nat, n = (N : Int) := ⟨n.toNat, by rw [Int.toNat_of_nonneg]; omega⟩
          have hN1 : 1 ≤ N := by omega
          have hN2 : N ≤ 65536 := by omega
          have HGD : Hid (Good N (slotsL l)) := good_alike (right_good HR.out)
          have HNB := newB_any w4 N u (slotsL l) hN1 hN2 HT4.out HN4.out
          have HIN : Hid ((1 : Int) ≤ (N : Int) ∧ (N : Int) ≤ 65536) := hin
          clear hin
          go_wp2_with fail
          refine HNB.mono ?_
          rintro e w5 ⟨hb5, ⟨-, qb, pb, b, f, cap, rfl, hb6, hf6, hbo⟩ | ⟨hno, -⟩⟩
          · have HB5 : Hid (Below w.heap.size w w5) := HB4.out.trans (hb5.mono HB4.out.size)
            have HM5 : Hid (MapL w5 X l) := HM4.out.kept hb5
            have HBO : Hid (BoardAt w5 qb pb b f cap N (takenB (slotsOf l))) := by rw [← taken_alike]; exact hbo
            have HBF : Hid (w.heap.size ≤ b ∧ w.heap.size ≤ f) := ⟨Nat.le_trans HB4.out.size hb6, Nat.le_trans HB4.out.size hf6⟩
            have HW0 : Hid (0 < w.heap.size) := HT.out.pos
            clear hb5 hb6 hf6 hbo HNB
            have HE : Hid (OvAt (((w5.alloc (.map #[] 0)).alloc (.map #[] 0)).alloc (.cells #[.pointer (some ⟨qb, 0, none⟩), .map (some X), .map (some w5.heap.size), .map (some (w5.heap.size + 1))] 74)) (w5.heap.size + 2) ⟨qb, pb, b, f, cap, X, w5.heap.size, w5.heap.size + 1⟩ (newO N l)) := by
              have hb7 : Below w5.heap.size w5 (((w5.alloc (.map #[] 0)).alloc (.map #[] 0)).alloc (.cells #[.pointer (some ⟨qb, 0, none⟩), .map (some X), .map (some w5.heap.size), .map (some (w5.heap.size + 1))] 74)) := (((Below.refl _ _).alloc (Nat.le_refl _) _).alloc (by simp) _).alloc (by simp; omega) _
              obtain ⟨x1, x2, x3⟩ := new3 w5 (.map #[] 0) (.map #[] 0) (.cells #[.pointer (some ⟨qb, 0, none⟩), .map (some X), .map (some w5.heap.size), .map (some (w5.heap.size + 1))] 74)
              have hXl := HM5.out.lt
              refine ⟨x3, HBO.out.below hb7, HM5.out.kept hb7, map_empty x1, map_empty x2, ⟨?_, ?_, ?_⟩, ?_, ?_⟩
              · show X ≠ w5.heap.size; omega
              · show X ≠ w5.heap.size + 1; omega
              · show w5.heap.size ≠ w5.heap.size + 1; omega
              · show 0 < b; have := HBF.out; have := HW0.out; omega
              · show 0 < f; have := HBF.out; have := HW0.out; omega
            have HBE : Hid (Below w.heap.size w (((w5.alloc (.map #[] 0)).alloc (.map #[] 0)).alloc (.cells #[.pointer (some ⟨qb, 0, none⟩), .map (some X), .map (some w5.heap.size), .map (some (w5.heap.size + 1))] 74))) := ((HB5.out.alloc HB5.out.size _).alloc (by have := HB5.out.size; simp; omega) _).alloc (by have := HB5.out.size; simp; omega) _
            go_wp2
            refine bodyPost_ret (results_tmp2 rfl _ _ _) rfl ?_
            refine ⟨HBE.out, .inl ⟨HIN.out.1, HIN.out.2, HR.out, w5.heap.size + 2, ⟨qb, pb, b, f, cap, X, w5.heap.size, w5.heap.size + 1⟩, rfl, HE.out, ?_, ?_⟩⟩
            · have := HB5.out.size
              exact ⟨HBF.out.1, HBF.out.2, HXL.out, this, Nat.le_succ_of_le this⟩
            · have := HB5.out.size
              omega
          · exact absurd HGD.out hno
        · have HNB := newB_off w4 n u HNI.out.1 HNI.out.2 HT4.out.pos (by omega)
          have HNO : Hid (¬ (1 ≤ n ∧ n ≤ 65536 ∧ rightM n l = true)) := fun h => hin ⟨h.1, h.2.1⟩
          clear hin
          go_wp2_with fail
          refine HNB.mono ?_
          rintro e w5 ⟨rfl, hb5⟩
          have HB5 : Hid (Below w.heap.size w w5) := HB4.out.trans (hb5.mono HB4.out.size)
          clear hb5
          go_wp2
          refine bodyPost_ret (results_tmp2 rfl _ _ _) rfl ?_
          exact ⟨HB5.out, .inr ⟨HNO.out, rfl⟩⟩
end Go.Proofs.YtjhkcdnfnmglhaaGreatDoor

/- An overlay in plain lists: how many slots are taken; the document's example. -/
namespace Go.Proofs.YtjhkcdnfnmglhaaGreatDoor
open Go.RowKit
set_option linter.unusedVariables false
set_option maxRecDepth 20000

def allS (O : Ov) : List Int := slotsL O.base ++ slotsL O.fresh ++ slotsL O.was
def totalO (O : Ov) : Nat := O.base.length + O.was.length + O.fresh.length
theorem all_len (O : Ov) : (allS O).length = totalO O := by
  unfold allS totalO
  rw [List.length_append, List.length_append, slots_len, slots_len, slots_len]
  omega
theorem in_has {O : Ov} {t : Int} (h : OvOk O t) {c : Nat} (hc : c < 3) (hr : Rise (O.part c)) {m : Md} (hm : m ∈ O.part c) : O.Has c m.k (m.s, m.g, m.u) := ⟨hc, mem_find hr.nodup hm⟩
theorem apart_slots {O : Ov} {t : Int} (h : OvOk O t) {c d : Nat} (hc : c < 3) (hd : d < 3) (hcd : c ≠ d) (hrc : Rise (O.part c)) (hrd : Rise (O.part d)) {y : Int} (hy : y ∈ slotsL (O.part c)) (hz : y ∈ slotsL (O.part d)) : False := by
  obtain ⟨m, hm, e1⟩ := slots_mem.1 hy
  obtain ⟨m', hm', e2⟩ := slots_mem.1 hz
  exact hcd (h.one _ _ _ _ _ _ (in_has h hc hrc hm) (in_has h hd hrd hm') (e1.trans e2.symm)).1
theorem all_good {O : Ov} {t : Int} (h : OvOk O t) : GoodG O.n O.B (allS O) := by
  refine ⟨?_, fun z hz => ?_⟩
  · unfold allS
    rw [List.nodup_append, List.nodup_append]
    refine ⟨⟨slots_nodup (part_slots h (c := 0) (by decide) h.rb), slots_nodup (part_slots h (c := 2) (by decide) h.rf), fun a ha b hb e => ?_⟩, slots_nodup (part_slots h (c := 1) (by decide) h.rw), fun a ha b hb e => ?_⟩
    · subst e
      exact apart_slots h (c := 0) (d := 2) (by decide) (by decide) (by decide) h.rb h.rf ha hb
    · subst e
      rcases List.mem_append.1 ha with ha | ha
      · exact apart_slots h (c := 0) (d := 1) (by decide) (by decide) (by decide) h.rb h.rw ha hb
      · exact apart_slots h (c := 2) (d := 1) (by decide) (by decide) (by decide) h.rf h.rw ha hb
  · have key : ∃ c m, c < 3 ∧ Rise (O.part c) ∧ m ∈ O.part c ∧ m.s = z := by
      unfold allS at hz
      rw [List.mem_append, List.mem_append] at hz
      rcases hz with (hz | hz) | hz <;> obtain ⟨m, hm, e⟩ := slots_mem.1 hz
      · exact ⟨0, m, by decide, h.rb, hm, e⟩
      · exact ⟨2, m, by decide, h.rf, hm, e⟩
      · exact ⟨1, m, by decide, h.rw, hm, e⟩
    obtain ⟨c, m, hc, hr, hm, rfl⟩ := key
    have h0 := in_has h hc hr hm
    obtain ⟨s, hs, hn⟩ := h.range _ _ _ h0
    exact ⟨s, hs, hn, (h.taken s).2 ⟨c, m.k, _, h0, hs⟩⟩
theorem all_taken {O : Ov} {t : Int} (h : OvOk O t) {i : Nat} (hi : O.B i = true) : (i : Int) ∈ allS O := by
  obtain ⟨c, k, e, ⟨hc, h0⟩, hs⟩ := (h.taken i).1 hi
  have hm := find_mem h0
  unfold allS
  rw [List.mem_append, List.mem_append]
  have hin : (i : Int) ∈ slotsL (O.part c) := slots_mem.2 ⟨_, hm, hs⟩
  match c, hc, hin with
  | 0, _, hin => exact .inl (.inl hin)
  | 1, _, hin => exact .inr hin
  | 2, _, hin => exact .inl (.inr hin)
theorem cnt_all12 {O : Ov} {t : Int} (h : OvOk O t) : cnt O.B 0 O.n = totalO O := by
  have h1 := cnt_give (all_good h) (allS O).length (Nat.le_refl _)
  rw [List.take_length] at h1
  rw [← h1, cnt_none, Nat.zero_add, all_len]
  intro i hi
  rw [Nat.zero_add]
  cases hg : giveB O.B (allS O) i with
  | false => rfl
  | true =>
    obtain ⟨a, b⟩ := giveB_at hg
    exact absurd (all_taken h a) b
theorem total_le {O : Ov} {t : Int} (h : OvOk O t) : totalO O ≤ O.n := by rw [← cnt_all12 h]; exact cnt_le _ _ _
theorem small_n {O : Ov} {t : Int} (h : OvOk O t) {N : Nat} (hn : totalO O ≤ N) : O.base.length ≤ N ∧ O.was.length ≤ N ∧ O.fresh.length ≤ N := by
  unfold totalO at hn
  omega
theorem part_i64 {O : Ov} {t : Int} (h : OvOk O t) {c : Nat} (hc : c < 3) (hr : Rise (O.part c)) : ∀ m ∈ O.part c, I64 m.s := fun m hm => by
  obtain ⟨s, hs, hn⟩ := h.range _ _ _ (in_has h hc hr hm)
  have := h.n2
  have hs' : m.s = (s : Int) := hs
  unfold I64
  omega

/-! ### How the lists grow -/
theorem total_retire {O : Ov} {t : Int} (h : OvOk O t) (k : Ky) : totalO (retireO O k) ≤ totalO O := by
  cases hf : findM O.base k with
  | none => rw [retire_none hf]; exact Nat.le_refl _
  | some e =>
    rw [retire_some hf]
    have h1 := len_put h.rw k e
    have h2 := len_cut h.rb k
    rw [(h.apart k e hf).1] at h1
    rw [hf] at h2
    simp at h1 h2
    show (cutL O.base k).length + (putL O.was k e).length + O.fresh.length ≤ O.base.length + O.was.length + O.fresh.length
    omega
theorem total_put {O O' : Ov} {t : Int} {k : Ky} {x : Ent} {err : Int} (h : OvOk O t) (hp : PutRel O k O' x err) : totalO O' ≤ totalO O + 1 := by
  rcases hp with ⟨_, rfl, _, _⟩ | ⟨_, e, he, rfl, _, _⟩ | ⟨_, _, _, rfl, _, _⟩ | ⟨_, hf, s, _, rfl, _, _⟩
  · omega
  · have h1 := len_put h.rf k (e.1, e.2.1 + 1, 0)
    rw [he] at h1
    simp at h1
    show O.base.length + O.was.length + (putL O.fresh k (e.1, e.2.1 + 1, 0)).length ≤ O.base.length + O.was.length + O.fresh.length + 1
    omega
  · omega
  · have h0 := total_retire h k
    have hr : (retireO O k).fresh = O.fresh := retire_fresh O k
    have h1 := len_put h.rf k ((s : Int), genO O k + 1, 0)
    rw [hf] at h1
    simp at h1
    show (retireO O k).base.length + (retireO O k).was.length + (putL (retireO O k).fresh k ((s : Int), genO O k + 1, 0)).length ≤ _
    unfold totalO at h0 ⊢
    rw [hr] at h0 ⊢
    omega
theorem total_sum {O : Ov} {t : Int} (h : OvOk O t) (k : Ky) (u : Nat) : totalO (sumO O k u).1 ≤ totalO O := by
  unfold sumO
  cases hf : findM O.fresh k with
  | none => exact Nat.le_refl _
  | some e =>
    have h1 := len_put h.rf k (e.1, e.2.1, u)
    rw [hf] at h1
    simp at h1
    show O.base.length + O.was.length + (putL O.fresh k (e.1, e.2.1, u)).length ≤ O.base.length + O.was.length + O.fresh.length
    omega
theorem total_drop {O : Ov} {t : Int} (h : OvOk O t) (k : Ky) : totalO (dropO O k).1 ≤ totalO O := by
  unfold dropO
  cases hf : findM O.fresh k with
  | none => exact total_retire h k
  | some e =>
    have h0 := total_retire (cutF_ok h hf) k
    have h2 := len_cut h.rf k
    refine Nat.le_trans h0 ?_
    show O.base.length + O.was.length + (cutL O.fresh k).length ≤ O.base.length + O.was.length + O.fresh.length
    omega
theorem total_commit {O : Ov} {t : Int} (h : OvOk O t) : totalO (commitO O) ≤ totalO O := by
  have hn := commit_ok12 h
  have h1 := cnt_all12 hn
  have hle : totalO (commitO O) = (applyM O.base O.fresh []).length := by unfold totalO commitO; simp
  have h2 : (applyM O.base O.fresh []).length ≤ O.base.length + O.fresh.length := by
    have h3 : ((applyM O.base O.fresh []).map Md.k).length = (sortR (keysA O.base O.fresh [])).length := by rw [keys_apply]
    rw [List.length_map] at h3
    rw [h3]
    refine Nat.le_trans (sortR_len _) ?_
    unfold keysA
    rw [List.length_append, List.length_map]
    have : (stayK O.base []).length ≤ O.base.length := by
      unfold stayK
      exact Nat.le_trans (List.length_filter_le _ _) (by rw [List.length_map]; exact Nat.le_refl _)
    omega
  rw [hle]
  unfold totalO
  omega

/-! ### The document's example -/
theorem newO_ok {n : Nat} (h1 : 1 ≤ n) (h2 : n ≤ 65536) : OvOk (newO n []) 281474976710655 := right_ok rfl h1 h2 (by simp)
theorem ex_one {B : Nat → Bool} {s t : Nat} (hB : ∀ i, 4 ≤ i → B i = false) (h : IsTake B 4 s) (ht : t < 4) (hf : B t = false) (hb : ∀ i, i < t → B i = true) : s = t := by
  have h4 := h.lt
  rcases Nat.lt_trichotomy s t with h1 | h1 | h1
  · have h5 := hb s h1
    rw [h.free] at h5
    cases h5
  · exact h1
  · have h5 := h.first t (by omega) h1
    rw [hf] at h5
    cases h5
theorem ex12 {O1 : Ov} {x1 : Ent} {e1 : Int} (h1 : PutRel (newO 4 []) (1, 0) O1 x1 e1) : x1 = (0, 1, 0) ∧ e1 = 0 ∧ ∀ O2 x2 e2, PutRel (commitO O1) (1, 0) O2 x2 e2 → x2 = (1, 2, 0) ∧ totalO O2 = 2 ∧ O2.base.length = 0 ∧ O2.fresh.length = 1 ∧ O2.was.length = 1 ∧ ∀ O3 x3 e3, PutRel O2 (1, 0) O3 x3 e3 → x3 = (1, 3, 0) := by
  have hr : isR (1, 0) = true := by decide
  rcases h1 with ⟨a, _⟩ | ⟨_, e, a, _⟩ | ⟨_, _, a, _⟩ | ⟨_, _, s, hs, rfl, rfl, rfl⟩
  · rw [hr] at a; cases a
  · cases a
  · have := a 0 (by decide); cases this
  have es : s = 0 := ex_one (fun i hi => rfl) hs (by decide) rfl (fun i hi => absurd hi (by omega))
  subst es
  have hg : genO (newO 4 []) (1, 0) = 0 := rfl
  refine ⟨by rw [hg]; rfl, rfl, ?_⟩
  rw [hg]
  intro O2 x2 e2 h2
  have hnone : ∀ x : Ky, findM (newO 4 []).fresh x = none := fun _ => rfl
  have hfr : (commitO (addF (retireO (newO 4 []) (1, 0)) (1, 0) 0 (0 + 1) 0)).fresh = [] := rfl
  have hB0 : (commitO (addF (retireO (newO 4 []) (1, 0)) (1, 0) 0 (0 + 1) 0)).B 0 = true := by decide
  have hB1 : (commitO (addF (retireO (newO 4 []) (1, 0)) (1, 0) 0 (0 + 1) 0)).B 1 = false := by decide
  have hBt : ∀ i, 4 ≤ i → (commitO (addF (retireO (newO 4 []) (1, 0)) (1, 0) 0 (0 + 1) 0)).B i = false := fun i hi => by
    show (putB (takenB []) 0 1 true i && !List.contains (slotsL []) (i : Int)) = false
    have : putB (takenB []) 0 1 true i = false := by unfold putB; rw [if_neg (by omega)]; rfl
    rw [this]; rfl
  have hbase : findM (commitO (addF (retireO (newO 4 []) (1, 0)) (1, 0) 0 (0 + 1) 0)).base (1, 0) = some (0, 1, 0) := by decide
  have hblen : (commitO (addF (retireO (newO 4 []) (1, 0)) (1, 0) 0 (0 + 1) 0)).base.length = 1 := by decide
  have hbr : Rise (commitO (addF (retireO (newO 4 []) (1, 0)) (1, 0) 0 (0 + 1) 0)).base := rise_apply _ _ _
  have hwas : (commitO (addF (retireO (newO 4 []) (1, 0)) (1, 0) 0 (0 + 1) 0)).was = [] := rfl
  have hn : (commitO (addF (retireO (newO 4 []) (1, 0)) (1, 0) 0 (0 + 1) 0)).n = 4 := rfl
  generalize commitO (addF (retireO (newO 4 []) (1, 0)) (1, 0) 0 (0 + 1) 0) = C at *
  rcases h2 with ⟨a, _⟩ | ⟨_, e, a, _⟩ | ⟨_, _, a, _⟩ | ⟨_, _, s, hs, rfl, rfl, rfl⟩
  · rw [hr] at a; cases a
  · rw [hfr] at a; cases a
  · have := a 1 (by rw [hn]; decide); rw [hB1] at this; cases this
  rw [hn] at hs
  have es : s = 1 := ex_one hBt hs (by decide) hB1 (fun i hi => by rw [show i = 0 by omega]; exact hB0)
  subst es
  have hg2 : genO C (1, 0) = 1 := by
    unfold genO
    rw [retire_was, if_pos rfl, hbase]
    rfl
  rw [hg2]
  have hb2 : (retireO C (1, 0)).base.length = 0 := by
    rw [retire_some hbase]
    have := len_cut hbr (1, 0)
    rw [hbase, hblen] at this
    simp at this
    simp [this]
  have hw2 : (retireO C (1, 0)).was.length = 1 := by
    rw [retire_some hbase]
    show (putL C.was (1, 0) (0, 1, 0)).length = 1
    rw [hwas, len_put Rise.nil]
    rfl
  have hf2 : (putL (retireO C (1, 0)).fresh (1, 0) (((1 : Nat) : Int), 1 + 1, 0)).length = 1 := by
    rw [retire_fresh, hfr, len_put Rise.nil]
    rfl
  refine ⟨rfl, ?_, hb2, hf2, hw2, ?_⟩
  · show (retireO C (1, 0)).base.length + (retireO C (1, 0)).was.length + (putL (retireO C (1, 0)).fresh (1, 0) (((1 : Nat) : Int), 1 + 1, 0)).length = 2
    rw [hb2, hw2, hf2]
  · intro O3 x3 e3 h3
    have hff : findM (addF (retireO C (1, 0)) (1, 0) 1 (1 + 1) 0).fresh (1, 0) = some (((1 : Nat) : Int), 1 + 1, 0) := by
      show findM (putL (retireO C (1, 0)).fresh (1, 0) _) (1, 0) = _
      rw [find_put, if_pos rfl]
    rcases h3 with ⟨a, _⟩ | ⟨_, e, a, _, rfl, _⟩ | ⟨_, a, _⟩ | ⟨_, a, _⟩
    · rw [hr] at a; cases a
    · rw [hff, Option.some.injEq] at a
      rw [← a]
      rfl
    · rw [hff] at a; cases a
    · rw [hff] at a; cases a
end Go.Proofs.YtjhkcdnfnmglhaaGreatDoor

/- The laws' first lines of layer 12 ('awake'): the document's example. -/
namespace Go.Proofs.YtjhkcdnfnmglhaaGreatDoor
open Go.RowKit
set_option linter.unusedVariables false
set_option maxRecDepth 20000

theorem OvStep.belowNew {s : OvB} {w w' : World} {B : Nat} (h : OvStep s w w') (hs : OvNewB s B) (hB : B ≤ w.heap.size) : Below B w w' :=
  Kept.below h fun k hk => by obtain ⟨a, b, c, d, e⟩ := hs; exact ⟨by omega, by omega, by omega, by omega, by omega, by omega⟩
theorem OvStep.cellsKept {s : OvB} {w w' : World} {q : Nat} {O : Ov} (h : OvStep s w w') (hO : OvAt w q s O) {i : Nat} {C : Array Value} {T : TypeId} {g : Nat × Nat} (hi : w.heap[i]? = some (.cells C T g)) (h1 : T ≠ 3) (h2 : T ≠ 122) : w'.heap[i]? = some (.cells C T g) :=
  (h.heap (lt_of_heap hi) ⟨ne_type hi hO.board.row.body h2, free_ne hi hO.board h1, ne_map hi hO.base, ne_map hi hO.was, ne_map hi hO.fresh⟩).trans hi
/-- What Put leaves, with the entry's cells written out. -/
theorem put12_out (w : World) (q : Nat) (s : OvB) (O : Ov) (t : Int) (h p : Int) (hO : OvAt w q s O) (hk : KI (h, p)) (hl : OvSmall O) (hok : OvOk O t) (ht : Steps w) (h0 : 0 ≤ t) (ht9 : t ≤ 900000000000000) :
    Calls Tryz.prog 8 #[.pointer (some ⟨q, 0, none⟩), .agg #[.int .i64 h, .int .i64 p]] w fun x w' => ∃ (O' : Ov) (a b : Int) (c : Nat) (err : Int), x = .returned (.tuple #[.agg #[.int .i64 a, .int .i64 b, .int .u32 (c : Nat)], .int .i64 err]) ∧ PutRel O (h, p) O' (a, b, c) err ∧ OvAt w' q s O' ∧ OvStep s w w' ∧ OvOk O' (t + 1) ∧ totalO O' ≤ totalO O + 1 :=
  (put12_any w q s O t h p hO hk hl hok ht h0 ht9).mono fun x w' ⟨O', ⟨a, b, c⟩, err, he, hp, ho, hs⟩ => ⟨O', a, b, c, err, he, hp, ho, hs, put_ok12 hok h0 hp, total_put hok hp⟩
theorem small_of {O : Ov} (h : totalO O ≤ 490) : OvSmall O := by unfold OvSmall; unfold totalO at h; omega
theorem key10 : KI ((1 : Int), (0 : Int)) := by unfold KI I64; decide
theorem own_of (W : World) (a b c : Value) (t : TypeId) : (W.alloc (.cells #[a, b, c] t)).heap[W.heap.size]? = some (.cells #[a, b, c] t (0, 0)) := heap_alloc_new W _
set_option maxHeartbeats 4000000 in
theorem awake12_any (w : World) (ht : Steps w) : Calls Tryz.prog 5 #[] w fun x w' => x = .returned (.bool true) ∧ Below w.heap.size w w' := by
  have HT : Hid (Steps w) := ht
  have HN : Hid (Calls Tryz.prog 6 #[.int .i64 4, .slice none 0 0] w fun x w' => Below w.heap.size w w' ∧ ∃ q s, x = .returned (.tuple #[.pointer (some ⟨q, 0, none⟩), .int .i64 0]) ∧ OvAt w' q s (newO 4 []) ∧ OvNewB s w.heap.size) := by
    refine (new12_any w 4 (.slice none 0 0) [] (Els.nil w) (by decide) (by simp) HT.out (by unfold I64; decide)).mono ?_
    rintro x w' ⟨hb, ⟨-, -, -, q, s, rfl, ho, hn, -⟩ | ⟨hno, -⟩⟩
    · exact ⟨hb, q, s, rfl, ho, hn⟩
    · exact absurd ⟨by decide, by decide, rfl⟩ hno
  clear ht
  go_enter Tryz.func5, Tryz.ntmps5
  go_wp2_with fail
  refine HN.out.mono ?_
  rintro x w1 ⟨hb, q, s, rfl, ho, hnew⟩
  have HB1 : Hid (Below w.heap.size w w1) := hb
  have HW : Hid (OvNewB s w.heap.size) := hnew
  obtain ⟨V1, hV⟩ : ∃ V, V = w1.alloc (.cells #[.int .i64 1, .int .i64 0] 32) := ⟨_, rfl⟩
  have HBV : Hid (Below w1.heap.size w1 V1) := by rw [hV]; exact (Below.refl _ _).alloc (Nat.le_refl _) _
  have HK1 : Hid (V1.heap[w1.heap.size]? = some (.cells #[.int .i64 1, .int .i64 0] 32 (0, 0))) := by rw [hV]; exact heap_alloc_new w1 _
  have HO1 : Hid (OvAt V1 q s (newO 4 [])) := ho.kept HBV.out
  have HB2 : Hid (Below w.heap.size w V1) := HB1.out.trans (HBV.out.mono HB1.out.size)
  have HP1 := put12_out V1 q s (newO 4 []) 281474976710655 1 0 HO1.out key10 (small_of (by decide)) (newO_ok (by decide) (by decide)) (HT.out.below HB2.out) (by decide) (by decide)
  clear hb ho hnew HN HBV HB1
  go_wp2_with fail
  rw [← hV]
  generalize w1.heap.size = K at *
  clear hV
  refine HP1.mono ?_
  rintro x w2 ⟨O1, a, b, c, err, rfl, hp, ho2, hs2, hok2, htt⟩
  obtain ⟨ex, rfl, hex⟩ := ex12 hp
  simp only [Prod.mk.injEq] at ex
  obtain ⟨rfl, rfl, rfl⟩ := ex
  have HEX : Hid (∀ O2 x2 e2, PutRel (commitO O1) (1, 0) O2 x2 e2 → x2 = (1, 2, 0) ∧ totalO O2 = 2 ∧ O2.base.length = 0 ∧ O2.fresh.length = 1 ∧ O2.was.length = 1 ∧ ∀ O3 x3 e3, PutRel O2 (1, 0) O3 x3 e3 → x3 = (1, 3, 0)) := hex
  have HOK1 : Hid (OvOk O1 (281474976710655 + 1)) := hok2
  have HT1 : Hid (totalO O1 ≤ 1) := htt
  -- the first entry's variable
  obtain ⟨V2, hV⟩ : ∃ V, V = w2.alloc (.cells #[.int .i64 0, .int .i64 1, .int .u32 ((0 : Nat) : Int)] 37) := ⟨_, rfl⟩
  have hbv : Below w2.heap.size w2 V2 := by rw [hV]; exact (Below.refl _ _).alloc (Nat.le_refl _) _
  have HE1 : Hid (V2.heap[w2.heap.size]? = some (.cells #[.int .i64 0, .int .i64 1, .int .u32 ((0 : Nat) : Int)] 37 (0, 0))) := by rw [hV]; exact heap_alloc_new w2 _
  have HO2 : Hid (OvAt V2 q s O1) := ho2.kept hbv
  have hk2 := hs2.cellsKept HO1.out HK1.out (by decide) (by decide)
  have HK2 : Hid (V2.heap[K]? = some (.cells #[.int .i64 1, .int .i64 0] 32 (0, 0))) := (hbv.block K (lt_of_heap hk2)).trans hk2
  have HB3 : Hid (Below w.heap.size w V2) := (HB2.out.trans (hs2.belowNew HW.out HB2.out.size)).trans (hbv.mono (Nat.le_trans HB2.out.size hs2.size))
  have HC := com12_any V2 q s O1 _ HO2.out (small_of (Nat.le_trans HT1.out (by decide))) HOK1.out (HT.out.below HB3.out) (part_i64 HOK1.out (c := 1) (by decide) HOK1.out.rw)
  clear hp ho2 hs2 hok2 hex htt hk2 hbv HP1 HO1 HK1 HB2
  go_wp2_with fail
  simp only [Int.natCast_zero] at hV
  try rw [← hV]
  generalize w2.heap.size = E1 at *
  refine HC.mono ?_
  rintro x w3 ⟨rfl, ho3, hs3⟩
  have HO3 : Hid (OvAt w3 q s (commitO O1)) := ho3
  have HK3 : Hid (w3.heap[K]? = some (.cells #[.int .i64 1, .int .i64 0] 32 (0, 0))) := hs3.cellsKept HO2.out HK2.out (by decide) (by decide)
  have HE3 : Hid (w3.heap[E1]? = some (.cells #[.int .i64 0, .int .i64 1, .int .u32 ((0 : Nat) : Int)] 37 (0, 0))) := hs3.cellsKept HO2.out HE1.out (by decide) (by decide)
  have HB4 : Hid (Below w.heap.size w w3) := HB3.out.trans (hs3.belowNew HW.out HB3.out.size)
  have HOK3 : Hid (OvOk (commitO O1) (281474976710655 + 1)) := commit_ok12 HOK1.out
  have HT3 : Hid (totalO (commitO O1) ≤ 1) := Nat.le_trans (total_commit HOK1.out) HT1.out
  obtain ⟨k0, k1⟩ := cells2' HK3.out
  have HP2 := put12_out w3 q s (commitO O1) _ 1 0 HO3.out key10 (small_of (Nat.le_trans HT3.out (by decide))) HOK3.out (HT.out.below HB4.out) (by decide) (by decide)
  clear hV ho3 hs3 HC HO2 HK2 HE1 HB3
  go_wp2_with fail
  refine HP2.mono ?_
  rintro x w4 ⟨O2, a, b, c, err, rfl, hp, ho4, hs4, hok4, htt⟩
  obtain ⟨ex, hto, hl0, hl1, hl2, hex⟩ := HEX.out _ _ _ hp
  simp only [Prod.mk.injEq] at ex
  obtain ⟨rfl, rfl, rfl⟩ := ex
  have HEX2 : Hid (∀ O3 x3 e3, PutRel O2 (1, 0) O3 x3 e3 → x3 = (1, 3, 0)) := hex
  have HLN : Hid (totalO O2 = 2 ∧ O2.base.length = 0 ∧ O2.fresh.length = 1 ∧ O2.was.length = 1) := ⟨hto, hl0, hl1, hl2⟩
  have HOK4 : Hid (OvOk O2 (281474976710655 + 1 + 1)) := hok4
  obtain ⟨V3, hV⟩ : ∃ V, V = w4.alloc (.cells #[.int .i64 1, .int .i64 2, .int .u32 ((0 : Nat) : Int)] 37) := ⟨_, rfl⟩
  have hbv : Below w4.heap.size w4 V3 := by rw [hV]; exact (Below.refl _ _).alloc (Nat.le_refl _) _
  have HF4 : Hid (V3.heap[w4.heap.size]? = some (.cells #[.int .i64 1, .int .i64 2, .int .u32 ((0 : Nat) : Int)] 37 (0, 0))) := by rw [hV]; exact heap_alloc_new w4 _
  have HO4 : Hid (OvAt V3 q s O2) := ho4.kept hbv
  have hk4 := hs4.cellsKept HO3.out HK3.out (by decide) (by decide)
  have he4 := hs4.cellsKept HO3.out HE3.out (by decide) (by decide)
  have HK4 : Hid (V3.heap[K]? = some (.cells #[.int .i64 1, .int .i64 0] 32 (0, 0))) := (hbv.block K (lt_of_heap hk4)).trans hk4
  have HE4 : Hid (V3.heap[E1]? = some (.cells #[.int .i64 0, .int .i64 1, .int .u32 ((0 : Nat) : Int)] 37 (0, 0))) := (hbv.block E1 (lt_of_heap he4)).trans he4
  have HB5 : Hid (Below w.heap.size w V3) := (HB4.out.trans (hs4.belowNew HW.out HB4.out.size)).trans (hbv.mono (Nat.le_trans HB4.out.size hs4.size))
  have HPA := parts12_any V3 q s O2 HO4.out (small_of (by rw [HLN.out.1]; decide)) ⟨part_i64 HOK4.out (c := 0) (by decide) HOK4.out.rb, part_i64 HOK4.out (c := 1) (by decide) HOK4.out.rw, part_i64 HOK4.out (c := 2) (by decide) HOK4.out.rf⟩
  clear hp ho4 hs4 hok4 hex htt hk4 he4 hbv HP2 HO3 HK3 HE3 HB4 HEX hto hl0 hl1 hl2 k0 k1
  go_wp2_with fail
  simp only [Int.natCast_zero] at hV
  try rw [← hV]
  generalize w4.heap.size = E2 at *
  clear hV
  refine HPA.mono ?_
  rintro x w5 ⟨u1, u2, u3, rfl, hn1, hn2, hn3, hb5⟩
  obtain ⟨a1, c1, rfl⟩ := hn1.shape
  obtain ⟨a2, c2, rfl⟩ := hn2.shape
  obtain ⟨a3, c3, rfl⟩ := hn3.shape
  rw [slots_len, HLN.out.2.1]
  rw [slots_len, HLN.out.2.2.1]
  rw [slots_len, HLN.out.2.2.2]
  have HO5 : Hid (OvAt w5 q s O2) := HO4.out.kept hb5
  have HK5 : Hid (w5.heap[K]? = some (.cells #[.int .i64 1, .int .i64 0] 32 (0, 0))) := (hb5.block K (lt_of_heap HK4.out)).trans HK4.out
  have HE5 : Hid (w5.heap[E1]? = some (.cells #[.int .i64 0, .int .i64 1, .int .u32 ((0 : Nat) : Int)] 37 (0, 0))) := (hb5.block E1 (lt_of_heap HE4.out)).trans HE4.out
  have HF5 : Hid (w5.heap[E2]? = some (.cells #[.int .i64 1, .int .i64 2, .int .u32 ((0 : Nat) : Int)] 37 (0, 0))) := (hb5.block E2 (lt_of_heap HF4.out)).trans HF4.out
  have HB6 : Hid (Below w.heap.size w w5) := HB5.out.trans (hb5.mono HB5.out.size)
  obtain ⟨k0, k1⟩ := cells2' HK5.out
  have HP3 := put12_out w5 q s O2 _ 1 0 HO5.out key10 (small_of (by rw [HLN.out.1]; decide)) HOK4.out (HT.out.below HB6.out) (by decide) (by decide)
  clear hn1 hn2 hn3 hb5 HPA HO4 HK4 HE4 HF4 HB5
  go_wp2_with fail
  refine HP3.mono ?_
  rintro x w6 ⟨O3, a, b, c, err, rfl, hp, ho6, hs6, -, -⟩
  have ex := HEX2.out _ _ _ hp
  simp only [Prod.mk.injEq] at ex
  obtain ⟨rfl, rfl, rfl⟩ := ex
  obtain ⟨V4, hV⟩ : ∃ V, V = w6.alloc (.cells #[.int .i64 1, .int .i64 3, .int .u32 ((0 : Nat) : Int)] 37) := ⟨_, rfl⟩
  have hbv : Below w6.heap.size w6 V4 := by rw [hV]; exact (Below.refl _ _).alloc (Nat.le_refl _) _
  have HG6 : Hid (V4.heap[w6.heap.size]? = some (.cells #[.int .i64 1, .int .i64 3, .int .u32 ((0 : Nat) : Int)] 37 (0, 0))) := by rw [hV]; exact heap_alloc_new w6 _
  have he6 := hs6.cellsKept HO5.out HE5.out (by decide) (by decide)
  have hf6 := hs6.cellsKept HO5.out HF5.out (by decide) (by decide)
  have HE6 : Hid (V4.heap[E1]? = some (.cells #[.int .i64 0, .int .i64 1, .int .u32 ((0 : Nat) : Int)] 37 (0, 0))) := (hbv.block E1 (lt_of_heap he6)).trans he6
  have HF6 : Hid (V4.heap[E2]? = some (.cells #[.int .i64 1, .int .i64 2, .int .u32 ((0 : Nat) : Int)] 37 (0, 0))) := (hbv.block E2 (lt_of_heap hf6)).trans hf6
  have HB7 : Hid (Below w.heap.size w V4) := (HB6.out.trans (hs6.belowNew HW.out HB6.out.size)).trans (hbv.mono (Nat.le_trans HB6.out.size hs6.size))
  obtain ⟨⟨p0, p1, p2⟩, -⟩ := cells3' HE6.out
  obtain ⟨⟨r0, r1, r2⟩, -⟩ := cells3' HF6.out
  obtain ⟨⟨t0, t1, t2⟩, -⟩ := cells3' HG6.out
  clear hp ho6 hs6 he6 hf6 hbv HP3 HO5 HK5 HE5 HF5 HB6 HEX2 k0 k1 HE6 HF6 HG6
  rw [hV] at p0 p1 p2 r0 r1 r2 t0 t1 t2
  rw [hV] at HB7
  simp only [Int.natCast_zero] at HB7 p0 p1 p2 r0 r1 r2 t0 t1 t2
  clear hV
  go_wp2
  go_ret
  exact ⟨rfl, HB7.out⟩
end Go.Proofs.YtjhkcdnfnmglhaaGreatDoor
