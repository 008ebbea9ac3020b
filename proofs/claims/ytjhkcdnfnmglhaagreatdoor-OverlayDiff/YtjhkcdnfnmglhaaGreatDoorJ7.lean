/- Some texts of mine, one behind the other (joined by program). -/
import Derived.Test.YtjhkcdnfnmglhaaGreatDoorJ6

/- Contract of an overlay's Get. -/
namespace Go.Proofs.YtjhkcdnfnmglhaaGreatDoor
open Go.RowKit Go.Maps
set_option linter.unusedVariables false
set_option maxRecDepth 20000

set_option maxHeartbeats 2000000 in
theorem get12_any (w : World) (q : Nat) (s : OvB) (O : Ov) (h p : Int) (hO : OvAt w q s O) (hk : KI (h, p)) :
    Calls Tryz.prog 16 #[.pointer (some ⟨q, 0, none⟩), .agg #[.int .i64 h, .int .i64 p]] w fun x w' => x = .returned (.tuple #[entV (getO12 O (h, p)), .bool (getO12 O (h, p)).isSome]) ∧ Below w.heap.size w w' := by
  have HK : Hid (KI (h, p)) := hk
  have HO : Hid (OvAt w q s O) := hO
  clear hO hk
  rcases hf : findM O.fresh (h, p) with _ | ⟨s0, s1, s2⟩
  · have HG : Hid (getO12 O (h, p) = findM O.base (h, p)) := by unfold Hid getO12; rw [hf]; rfl
    rw [HG.out]
    have HLF : Hid (∀ W', MapL W' s.Z O.fresh → (Instr.lookup 68 (.map (some s.Z)) (.agg #[.int .i64 h, .int .i64 p]) true).run Tryz.prog W' = .ok (.tuple #[.agg #[.int .i64 0, .int .i64 0, .int .u32 0], .bool false]) W') := fun W' hm => by
      have h9 := hm.look (k := (h, p)) HK.out
      rw [hf] at h9
      exact h9
    obtain ⟨fb, hfb⟩ : ∃ fb, findM O.base (h, p) = fb := ⟨_, rfl⟩
    obtain ⟨b0, b1, b2, hb⟩ : ∃ b0 b1 b2, entV fb = .agg #[.int .i64 b0, .int .i64 b1, .int .u32 (b2 : Nat)] := ⟨_, _, _, rfl⟩
    have HLB : Hid (∀ W', MapL W' s.X O.base → (Instr.lookup 68 (.map (some s.X)) (.agg #[.int .i64 h, .int .i64 p]) true).run Tryz.prog W' = .ok (.tuple #[.agg #[.int .i64 b0, .int .i64 b1, .int .u32 (b2 : Nat)], .bool fb.isSome]) W') := fun W' hm => by
      have h9 := hm.look (k := (h, p)) HK.out
      rw [hfb] at h9
      rw [hb] at h9
      exact h9
    rw [hfb, hb]
    generalize fb.isSome = ok at *
    clear hfb hb hf HG
    go_enter Tryz.func16, Tryz.ntmps16
    go_wp2_with fail
    obtain ⟨V, hW⟩ : ∃ W, W = (w.alloc (.cells #[.int .i64 h, .int .i64 p] 32)).alloc (.cells #[.int .i64 0, .int .i64 0, .int .u32 0] 37) := ⟨_, rfl⟩
    have hs : (w.alloc (.cells #[.int .i64 h, .int .i64 p] 32)).heap.size = w.heap.size + 1 := by simp
    have HB0 : Hid (Below w.heap.size w V) := by rw [hW]; exact ((Below.refl _ _).alloc (Nat.le_refl _) _).alloc (by simp) _
    have HGA : Hid (V.heap[w.heap.size]? = some (.cells #[.int .i64 h, .int .i64 p] 32 (0, 0))) := by
      rw [hW]
      exact (((Below.refl _ _).alloc (Nat.le_refl _) _ : Below _ (w.alloc (.cells #[.int .i64 h, .int .i64 p] 32)) _).block w.heap.size (by simp)).trans (heap_alloc_new w _)
    have HGE : Hid (V.heap[w.heap.size + 1]? = some (.cells #[.int .i64 0, .int .i64 0, .int .u32 0] 37 (0, 0))) := by
      have := heap_alloc_new (w.alloc (.cells #[.int .i64 h, .int .i64 p] 32)) (.cells #[.int .i64 0, .int .i64 0, .int .u32 0] 37)
      rw [hs] at this
      rw [hW]; exact this
    have HOV : Hid (OvAt V q s O) := HO.out.kept HB0.out
    rw [← hW]
    try rw [hs]
    obtain ⟨A, hA⟩ : ∃ A, A = w.heap.size := ⟨_, rfl⟩
    obtain ⟨E, hE⟩ : ∃ E, E = A + 1 := ⟨_, rfl⟩
    rw [← hA] at HGA HGE
    rw [← hE] at HGE
    try rw [← hA]
    try rw [← hE]
    have HA : Hid (A = w.heap.size) := hA
    have HE : Hid (E = A + 1) := hE
    clear hW hs hA hE
    have HS9 : Hid (∀ w', Below V.heap.size V w' → (w'.cell? ⟨A, 0, none⟩ = some (.int .i64 h) ∧ w'.cell? ⟨A, 1, none⟩ = some (.int .i64 p)) ∧ w'.cell? ⟨q, 3, none⟩ = some (.map (some s.Z)) ∧ (Instr.lookup 68 (.map (some s.Z)) (.agg #[.int .i64 h, .int .i64 p]) true).run Tryz.prog w' = .ok (.tuple #[.agg #[.int .i64 0, .int .i64 0, .int .u32 0], .bool false]) w') := fun w' hb => ⟨cells2' ((hb.block A (lt_of_heap HGA.out)).trans HGA.out), (HOV.out.kept hb).cells.2.2.2, HLF.out w' (HOV.out.fresh.kept hb)⟩
    go_region_held3 (fun w' => (w'.cell? ⟨A, 0, none⟩ = some (.int .i64 h) ∧ w'.cell? ⟨A, 1, none⟩ = some (.int .i64 p)) ∧ w'.cell? ⟨q, 3, none⟩ = some (.map (some s.Z)) ∧ (Instr.lookup 68 (.map (some s.Z)) (.agg #[.int .i64 h, .int .i64 p]) true).run Tryz.prog w' = .ok (.tuple #[.agg #[.int .i64 0, .int .i64 0, .int .u32 0], .bool false]) w') (first | exact HS9.out _ (Below.refl _ _).drew | exact HS9.out _ ((Below.refl _ _).drew.alloc (Nat.le_refl _) _)) (fail)
    all_goals
      have HZV1 : Hid ((V.alloc (.cells #[.int .i64 0, .int .i64 0, .int .u32 0] 37)).drew.heap[V.heap.size]? = some (.cells #[.int .i64 0, .int .i64 0, .int .u32 0] 37 (0, 0))) := heap_alloc_new V _
      have HBV1 : Hid (Below V.heap.size V (V.alloc (.cells #[.int .i64 0, .int .i64 0, .int .u32 0] 37)).drew) := ((Below.refl _ _).alloc (Nat.le_refl _) _).drew
      generalize (V.alloc (.cells #[.int .i64 0, .int .i64 0, .int .u32 0] 37)).drew = V1 at *
      obtain ⟨Zb, hZb⟩ : ∃ Zb, Zb = V.heap.size := ⟨_, rfl⟩
      have HGV1 : Hid (Zb = V.heap.size) := hZb
      rw [← hZb] at HZV1
      try rw [← hZb]
      clear hZb HS9
      have HOV1 : Hid (OvAt V1 q s O) := HOV.out.kept HBV1.out
      have HGA1 : Hid (V1.heap[A]? = some (.cells #[.int .i64 h, .int .i64 p] 32 (0, 0))) := (HBV1.out.block A (lt_of_heap HGA.out)).trans HGA.out
      go_wp2_with fail
      have HS8 : Hid (∀ w', Below V1.heap.size V1 w' → (w'.cell? ⟨A, 0, none⟩ = some (.int .i64 h) ∧ w'.cell? ⟨A, 1, none⟩ = some (.int .i64 p)) ∧ w'.cell? ⟨q, 1, none⟩ = some (.map (some s.X)) ∧ (Instr.lookup 68 (.map (some s.X)) (.agg #[.int .i64 h, .int .i64 p]) true).run Tryz.prog w' = .ok (.tuple #[.agg #[.int .i64 b0, .int .i64 b1, .int .u32 (b2 : Nat)], .bool ok]) w') := fun w' hb => ⟨cells2' ((hb.block A (lt_of_heap HGA1.out)).trans HGA1.out), (HOV1.out.kept hb).cells.2.1, HLB.out w' (HOV1.out.base.kept hb)⟩
      go_region_held3 (fun w' => (w'.cell? ⟨A, 0, none⟩ = some (.int .i64 h) ∧ w'.cell? ⟨A, 1, none⟩ = some (.int .i64 p)) ∧ w'.cell? ⟨q, 1, none⟩ = some (.map (some s.X)) ∧ (Instr.lookup 68 (.map (some s.X)) (.agg #[.int .i64 h, .int .i64 p]) true).run Tryz.prog w' = .ok (.tuple #[.agg #[.int .i64 b0, .int .i64 b1, .int .u32 (b2 : Nat)], .bool ok]) w') (first | exact HS8.out _ (Below.refl _ _).drew | exact HS8.out _ ((Below.refl _ _).drew.alloc (Nat.le_refl _) _)) (fail)
      all_goals
        have HZV2 : Hid ((V1.alloc (.cells #[.int .i64 b0, .int .i64 b1, .int .u32 (b2 : Nat)] 37)).drew.heap[V1.heap.size]? = some (.cells #[.int .i64 b0, .int .i64 b1, .int .u32 (b2 : Nat)] 37 (0, 0))) := heap_alloc_new V1 _
        have HBV2 : Hid (Below V1.heap.size V1 (V1.alloc (.cells #[.int .i64 b0, .int .i64 b1, .int .u32 (b2 : Nat)] 37)).drew) := ((Below.refl _ _).alloc (Nat.le_refl _) _).drew
        generalize (V1.alloc (.cells #[.int .i64 b0, .int .i64 b1, .int .u32 (b2 : Nat)] 37)).drew = V2 at *
        obtain ⟨Zc, hZb⟩ : ∃ Zb, Zb = V1.heap.size := ⟨_, rfl⟩
        have HGV2 : Hid (Zc = V1.heap.size) := hZb
        rw [← hZb] at HZV2
        try rw [← hZb]
        clear hZb HS8
        have HZE : Hid (V2.heap[E]? = some (.cells #[.int .i64 0, .int .i64 0, .int .u32 0] 37 (0, 0))) := (((HBV1.out.trans (HBV2.out.mono HBV1.out.size))).block E (lt_of_heap HGE.out)).trans HGE.out
        obtain ⟨⟨z0, z1, z2⟩, zf⟩ := cells3' HZE.out
        obtain ⟨⟨e0, e1, e2⟩, -⟩ := cells3' HZV2.out
        have f0 := zf 0
        have f1 := zf 1
        have f2 := zf 2
        clear zf
        have HBE : Hid (Below w.heap.size w V2) := HB0.out.trans (((HBV1.out.trans (HBV2.out.mono HBV1.out.size))).mono HB0.out.size)
        have HEL : Hid (w.heap.size ≤ E) := by have := HA.out; have := HE.out; unfold Hid; omega
        go_wp2
        refine bodyPost_ret (v := .tuple #[.agg #[.int .i64 _, .int .i64 _, .int .u32 _], .bool _]) (results_cell2 rfl rfl rfl (load_ent (set_three _ _ _ z0 z1 z2).1 (set_three _ _ _ z0 z1 z2).2.1 (set_three _ _ _ z0 z1 z2).2.2)) rfl ⟨rfl, ?_⟩
        exact ((HBE.out.setCell HEL.out _).setCell HEL.out _).setCell HEL.out _
  · have HG : Hid (getO12 O (h, p) = some (s0, s1, s2)) := by unfold Hid getO12; rw [hf]; rfl
    rw [HG.out]
    have HLF : Hid (∀ W', MapL W' s.Z O.fresh → (Instr.lookup 68 (.map (some s.Z)) (.agg #[.int .i64 h, .int .i64 p]) true).run Tryz.prog W' = .ok (.tuple #[.agg #[.int .i64 s0, .int .i64 s1, .int .u32 (s2 : Nat)], .bool true]) W') := fun W' hm => by
      have h9 := hm.look (k := (h, p)) HK.out
      rw [hf] at h9
      exact h9
    clear hf HG
    go_enter Tryz.func16, Tryz.ntmps16
    go_wp2_with fail
    obtain ⟨V, hW⟩ : ∃ W, W = (w.alloc (.cells #[.int .i64 h, .int .i64 p] 32)).alloc (.cells #[.int .i64 0, .int .i64 0, .int .u32 0] 37) := ⟨_, rfl⟩
    have hs : (w.alloc (.cells #[.int .i64 h, .int .i64 p] 32)).heap.size = w.heap.size + 1 := by simp
    have HB0 : Hid (Below w.heap.size w V) := by rw [hW]; exact ((Below.refl _ _).alloc (Nat.le_refl _) _).alloc (by simp) _
    have HGA : Hid (V.heap[w.heap.size]? = some (.cells #[.int .i64 h, .int .i64 p] 32 (0, 0))) := by
      rw [hW]
      exact (((Below.refl _ _).alloc (Nat.le_refl _) _ : Below _ (w.alloc (.cells #[.int .i64 h, .int .i64 p] 32)) _).block w.heap.size (by simp)).trans (heap_alloc_new w _)
    have HGE : Hid (V.heap[w.heap.size + 1]? = some (.cells #[.int .i64 0, .int .i64 0, .int .u32 0] 37 (0, 0))) := by
      have := heap_alloc_new (w.alloc (.cells #[.int .i64 h, .int .i64 p] 32)) (.cells #[.int .i64 0, .int .i64 0, .int .u32 0] 37)
      rw [hs] at this
      rw [hW]; exact this
    have HOV : Hid (OvAt V q s O) := HO.out.kept HB0.out
    rw [← hW]
    try rw [hs]
    obtain ⟨A, hA⟩ : ∃ A, A = w.heap.size := ⟨_, rfl⟩
    obtain ⟨E, hE⟩ : ∃ E, E = A + 1 := ⟨_, rfl⟩
    rw [← hA] at HGA HGE
    rw [← hE] at HGE
    try rw [← hA]
    try rw [← hE]
    have HA : Hid (A = w.heap.size) := hA
    have HE : Hid (E = A + 1) := hE
    clear hW hs hA hE
    have HS9 : Hid (∀ w', Below V.heap.size V w' → (w'.cell? ⟨A, 0, none⟩ = some (.int .i64 h) ∧ w'.cell? ⟨A, 1, none⟩ = some (.int .i64 p)) ∧ w'.cell? ⟨q, 3, none⟩ = some (.map (some s.Z)) ∧ (Instr.lookup 68 (.map (some s.Z)) (.agg #[.int .i64 h, .int .i64 p]) true).run Tryz.prog w' = .ok (.tuple #[.agg #[.int .i64 s0, .int .i64 s1, .int .u32 (s2 : Nat)], .bool true]) w') := fun w' hb => ⟨cells2' ((hb.block A (lt_of_heap HGA.out)).trans HGA.out), (HOV.out.kept hb).cells.2.2.2, HLF.out w' (HOV.out.fresh.kept hb)⟩
    go_region_held3 (fun w' => (w'.cell? ⟨A, 0, none⟩ = some (.int .i64 h) ∧ w'.cell? ⟨A, 1, none⟩ = some (.int .i64 p)) ∧ w'.cell? ⟨q, 3, none⟩ = some (.map (some s.Z)) ∧ (Instr.lookup 68 (.map (some s.Z)) (.agg #[.int .i64 h, .int .i64 p]) true).run Tryz.prog w' = .ok (.tuple #[.agg #[.int .i64 s0, .int .i64 s1, .int .u32 (s2 : Nat)], .bool true]) w') (first | exact HS9.out _ (Below.refl _ _).drew | exact HS9.out _ ((Below.refl _ _).drew.alloc (Nat.le_refl _) _)) (fail)
    all_goals
      have HZV1 : Hid ((V.alloc (.cells #[.int .i64 s0, .int .i64 s1, .int .u32 (s2 : Nat)] 37)).drew.heap[V.heap.size]? = some (.cells #[.int .i64 s0, .int .i64 s1, .int .u32 (s2 : Nat)] 37 (0, 0))) := heap_alloc_new V _
      have HBV1 : Hid (Below V.heap.size V (V.alloc (.cells #[.int .i64 s0, .int .i64 s1, .int .u32 (s2 : Nat)] 37)).drew) := ((Below.refl _ _).alloc (Nat.le_refl _) _).drew
      generalize (V.alloc (.cells #[.int .i64 s0, .int .i64 s1, .int .u32 (s2 : Nat)] 37)).drew = V1 at *
      obtain ⟨Zb, hZb⟩ : ∃ Zb, Zb = V.heap.size := ⟨_, rfl⟩
      have HGV1 : Hid (Zb = V.heap.size) := hZb
      rw [← hZb] at HZV1
      try rw [← hZb]
      clear hZb HS9
      have HZE : Hid (V1.heap[E]? = some (.cells #[.int .i64 0, .int .i64 0, .int .u32 0] 37 (0, 0))) := (HBV1.out.block E (lt_of_heap HGE.out)).trans HGE.out
      obtain ⟨⟨z0, z1, z2⟩, zf⟩ := cells3' HZE.out
      obtain ⟨⟨e0, e1, e2⟩, -⟩ := cells3' HZV1.out
      have f0 := zf 0
      have f1 := zf 1
      have f2 := zf 2
      clear zf
      have HBE : Hid (Below w.heap.size w V1) := HB0.out.trans (HBV1.out.mono HB0.out.size)
      have HEL : Hid (w.heap.size ≤ E) := by have := HA.out; have := HE.out; unfold Hid; omega
      go_wp2
      refine bodyPost_ret (v := .tuple #[.agg #[.int .i64 _, .int .i64 _, .int .u32 _], .bool _]) (results_cell2 rfl rfl rfl (load_ent (set_three _ _ _ z0 z1 z2).1 (set_three _ _ _ z0 z1 z2).2.1 (set_three _ _ _ z0 z1 z2).2.2)) rfl ⟨rfl, ?_⟩
      exact ((HBE.out.setCell HEL.out _).setCell HEL.out _).setCell HEL.out _
end Go.Proofs.YtjhkcdnfnmglhaaGreatDoor

/- Contract of an overlay's retire. -/
namespace Go.Proofs.YtjhkcdnfnmglhaaGreatDoor
open Go.RowKit Go.Maps
set_option linter.unusedVariables false
set_option maxRecDepth 20000

theorem free_ne {w : World} {i q p b f cap n : Nat} {B : Nat → Bool} {C : Array Value} {t : TypeId} {g : Nat × Nat} (h : w.heap[i]? = some (.cells C t g)) (hB : BoardAt w q p b f cap n B) (ht : t ≠ 3) : i ≠ f := by
  obtain ⟨cur, h2, _⟩ := hB.nums
  exact ne_type h h2 ht
theorem OvAt.drew {w : World} {q : Nat} {s : OvB} {O : Ov} (h : OvAt w q s O) : OvAt w.drew q s O := h.kept (Below.refl _ _).drew
theorem OvStep.drew {s : OvB} {a w : World} (h : OvStep s a w) : OvStep s a w.drew := h.below (Below.refl _ _).drew
set_option maxHeartbeats 2000000 in
theorem retire12_any (w : World) (q : Nat) (s : OvB) (O : Ov) (h p : Int) (hO : OvAt w q s O) (hk : KI (h, p)) (hl : OvSmall O) :
    Calls Tryz.prog 34 #[.pointer (some ⟨q, 0, none⟩), .agg #[.int .i64 h, .int .i64 p]] w fun x w' => x = .returned (.bool (findM O.base (h, p)).isSome) ∧ OvAt w' q s (retireO O (h, p)) ∧ OvStep s w w' := by
  have HK : Hid (KI (h, p)) := hk
  have HO : Hid (OvAt w q s O) := hO
  have HLEN : Hid (O.base.length ≤ 490 ∧ O.was.length ≤ 490 ∧ O.fresh.length ≤ 490) := hl
  clear hO hk hl
  rcases hf : findM O.base (h, p) with _ | ⟨s0, s1, s2⟩
  · rw [retire_none hf]
    have HLB : Hid (∀ W', MapL W' s.X O.base → (Instr.lookup 68 (.map (some s.X)) (.agg #[.int .i64 h, .int .i64 p]) true).run Tryz.prog W' = .ok (.tuple #[.agg #[.int .i64 0, .int .i64 0, .int .u32 0], .bool false]) W') := fun W' hm => by
      have h9 := hm.look (k := (h, p)) HK.out
      rw [hf] at h9
      exact h9
    clear hf
    go_enter Tryz.func34, Tryz.ntmps34
    go_wp2_with fail
    obtain ⟨V, hW⟩ : ∃ W, W = w.alloc (.cells #[.int .i64 h, .int .i64 p] 32) := ⟨_, rfl⟩
    have HB0 : Hid (Below w.heap.size w V) := by rw [hW]; exact (Below.refl _ _).alloc (Nat.le_refl _) _
    have HGA : Hid (V.heap[w.heap.size]? = some (.cells #[.int .i64 h, .int .i64 p] 32 (0, 0))) := by rw [hW]; exact heap_alloc_new w _
    have HOV : Hid (OvAt V q s O) := HO.out.kept HB0.out
    rw [← hW]
    obtain ⟨A, hA⟩ : ∃ A, A = w.heap.size := ⟨_, rfl⟩
    rw [← hA] at HGA
    try rw [← hA]
    have HA : Hid (A = w.heap.size) := hA
    clear hW hA
    have HS9 : Hid (∀ w', Below V.heap.size V w' → (w'.cell? ⟨A, 0, none⟩ = some (.int .i64 h) ∧ w'.cell? ⟨A, 1, none⟩ = some (.int .i64 p)) ∧ w'.cell? ⟨q, 1, none⟩ = some (.map (some s.X)) ∧ (Instr.lookup 68 (.map (some s.X)) (.agg #[.int .i64 h, .int .i64 p]) true).run Tryz.prog w' = .ok (.tuple #[.agg #[.int .i64 0, .int .i64 0, .int .u32 0], .bool false]) w') := fun w' hb => ⟨cells2' ((hb.block A (lt_of_heap HGA.out)).trans HGA.out), (HOV.out.kept hb).cells.2.1, HLB.out w' (HOV.out.base.kept hb)⟩
    go_region_held3 (fun w' => (w'.cell? ⟨A, 0, none⟩ = some (.int .i64 h) ∧ w'.cell? ⟨A, 1, none⟩ = some (.int .i64 p)) ∧ w'.cell? ⟨q, 1, none⟩ = some (.map (some s.X)) ∧ (Instr.lookup 68 (.map (some s.X)) (.agg #[.int .i64 h, .int .i64 p]) true).run Tryz.prog w' = .ok (.tuple #[.agg #[.int .i64 0, .int .i64 0, .int .u32 0], .bool false]) w') (first | exact HS9.out _ (Below.refl _ _).drew | exact HS9.out _ ((Below.refl _ _).drew.alloc (Nat.le_refl _) _)) (fail)
    all_goals
      have HZV1 : Hid ((V.alloc (.cells #[.int .i64 0, .int .i64 0, .int .u32 0] 37)).drew.heap[V.heap.size]? = some (.cells #[.int .i64 0, .int .i64 0, .int .u32 0] 37 (0, 0))) := heap_alloc_new V _
      have HBV1 : Hid (Below V.heap.size V (V.alloc (.cells #[.int .i64 0, .int .i64 0, .int .u32 0] 37)).drew) := ((Below.refl _ _).alloc (Nat.le_refl _) _).drew
      generalize (V.alloc (.cells #[.int .i64 0, .int .i64 0, .int .u32 0] 37)).drew = V1 at *
      obtain ⟨Zb, hZb⟩ : ∃ Zb, Zb = V.heap.size := ⟨_, rfl⟩
      have HGV1 : Hid (Zb = V.heap.size) := hZb
      rw [← hZb] at HZV1
      try rw [← hZb]
      clear hZb HS9
      have HOE : Hid (OvAt V1 q s O) := HOV.out.kept HBV1.out
      have HST : Hid (OvStep s w V1) := .ofBelow (HB0.out.trans (HBV1.out.mono HB0.out.size))
      go_wp2
      go_ret
      exact ⟨rfl, HOE.out, HST.out⟩
  · rw [retire_some hf]
    have HLB : Hid (∀ W', MapL W' s.X O.base → (Instr.lookup 68 (.map (some s.X)) (.agg #[.int .i64 h, .int .i64 p]) true).run Tryz.prog W' = .ok (.tuple #[.agg #[.int .i64 s0, .int .i64 s1, .int .u32 (s2 : Nat)], .bool true]) W') := fun W' hm => by
      have h9 := hm.look (k := (h, p)) HK.out
      rw [hf] at h9
      exact h9
    clear hf
    go_enter Tryz.func34, Tryz.ntmps34
    go_wp2_with fail
    obtain ⟨V, hW⟩ : ∃ W, W = w.alloc (.cells #[.int .i64 h, .int .i64 p] 32) := ⟨_, rfl⟩
    have HB0 : Hid (Below w.heap.size w V) := by rw [hW]; exact (Below.refl _ _).alloc (Nat.le_refl _) _
    have HGA : Hid (V.heap[w.heap.size]? = some (.cells #[.int .i64 h, .int .i64 p] 32 (0, 0))) := by rw [hW]; exact heap_alloc_new w _
    have HOV : Hid (OvAt V q s O) := HO.out.kept HB0.out
    rw [← hW]
    obtain ⟨A, hA⟩ : ∃ A, A = w.heap.size := ⟨_, rfl⟩
    rw [← hA] at HGA
    try rw [← hA]
    have HA : Hid (A = w.heap.size) := hA
    clear hW hA
    have HS9 : Hid (∀ w', Below V.heap.size V w' → (w'.cell? ⟨A, 0, none⟩ = some (.int .i64 h) ∧ w'.cell? ⟨A, 1, none⟩ = some (.int .i64 p)) ∧ w'.cell? ⟨q, 1, none⟩ = some (.map (some s.X)) ∧ (Instr.lookup 68 (.map (some s.X)) (.agg #[.int .i64 h, .int .i64 p]) true).run Tryz.prog w' = .ok (.tuple #[.agg #[.int .i64 s0, .int .i64 s1, .int .u32 (s2 : Nat)], .bool true]) w') := fun w' hb => ⟨cells2' ((hb.block A (lt_of_heap HGA.out)).trans HGA.out), (HOV.out.kept hb).cells.2.1, HLB.out w' (HOV.out.base.kept hb)⟩
    go_region_held3 (fun w' => (w'.cell? ⟨A, 0, none⟩ = some (.int .i64 h) ∧ w'.cell? ⟨A, 1, none⟩ = some (.int .i64 p)) ∧ w'.cell? ⟨q, 1, none⟩ = some (.map (some s.X)) ∧ (Instr.lookup 68 (.map (some s.X)) (.agg #[.int .i64 h, .int .i64 p]) true).run Tryz.prog w' = .ok (.tuple #[.agg #[.int .i64 s0, .int .i64 s1, .int .u32 (s2 : Nat)], .bool true]) w') (first | exact HS9.out _ (Below.refl _ _).drew | exact HS9.out _ ((Below.refl _ _).drew.alloc (Nat.le_refl _) _)) (fail)
    all_goals
      have HZV1 : Hid ((V.alloc (.cells #[.int .i64 s0, .int .i64 s1, .int .u32 (s2 : Nat)] 37)).drew.heap[V.heap.size]? = some (.cells #[.int .i64 s0, .int .i64 s1, .int .u32 (s2 : Nat)] 37 (0, 0))) := heap_alloc_new V _
      have HBV1 : Hid (Below V.heap.size V (V.alloc (.cells #[.int .i64 s0, .int .i64 s1, .int .u32 (s2 : Nat)] 37)).drew) := ((Below.refl _ _).alloc (Nat.le_refl _) _).drew
      generalize (V.alloc (.cells #[.int .i64 s0, .int .i64 s1, .int .u32 (s2 : Nat)] 37)).drew = V1 at *
      obtain ⟨Zb, hZb⟩ : ∃ Zb, Zb = V.heap.size := ⟨_, rfl⟩
      have HGV1 : Hid (Zb = V.heap.size) := hZb
      rw [← hZb] at HZV1
      try rw [← hZb]
      clear hZb HS9
      have HOV1 : Hid (OvAt V1 q s O) := HOV.out.kept HBV1.out
      have HGA1 : Hid (V1.heap[A]? = some (.cells #[.int .i64 h, .int .i64 p] 32 (0, 0))) := (HBV1.out.block A (lt_of_heap HGA.out)).trans HGA.out
      have HST1 : Hid (OvStep s w V1) := .ofBelow (HB0.out.trans (HBV1.out.mono HB0.out.size))
      go_wp2_with fail
      obtain ⟨V2, hup, hm, hg⟩ := (HOV1.out.was.drew).put (by show O.was.length < 100000; have := HLEN.out; omega) HK.out (s0, s1, s2)
      have HUP : (Instr.mapUpdate 68 (.map (some s.Y)) (.agg #[.int .i64 h, .int .i64 p]) (.agg #[.int .i64 s0, .int .i64 s1, .int .u32 (s2 : Nat)])).run Tryz.prog V1.drew = .ok () V2 := hup
      have HMV2 : Hid (MapL V2 s.Y (putL (O).was (h, p) (s0, s1, s2))) := hm
      have HGV2 : Hid (V1.drew.grownBy V2 (some s.Y)) := hg
      clear hup hm hg
      have HS7 : Hid (∀ w', Below V1.heap.size V1 w' → ((w'.cell? ⟨A, 0, none⟩ = some (.int .i64 h) ∧ w'.cell? ⟨A, 1, none⟩ = some (.int .i64 p)) ∧ w'.cell? ⟨q, 2, none⟩ = some (.map (some s.Y))) ∧ w'.cell? ⟨Zb, 0, none⟩ = some (.int .i64 s0) ∧ w'.cell? ⟨Zb, 1, none⟩ = some (.int .i64 s1) ∧ w'.cell? ⟨Zb, 2, none⟩ = some (.int .u32 (s2 : Nat))) := fun w' hb => ⟨⟨cells2' ((hb.block A (lt_of_heap HGA1.out)).trans HGA1.out), (HOV1.out.kept hb).cells.2.2.1⟩, (cells3' ((hb.block Zb (lt_of_heap HZV1.out)).trans HZV1.out)).1⟩
      have HOV2 : Hid (OvAt V2 q s ({ O with was := putL O.was (h, p) (s0, s1, s2) })) := HOV1.out.drew.wasTo HGV2.out HMV2.out
      have HGAV2 : Hid (V2.heap[A]? = some (.cells #[.int .i64 h, .int .i64 p] 32 (0, 0))) := (grown_block HGV2.out (lt_of_heap HGA1.out) (ne_map (w := V1) HGA1.out HOV1.out.was)).trans HGA1.out
      have HZV2 : Hid (V2.heap[Zb]? = some (.cells #[.int .i64 s0, .int .i64 s1, .int .u32 (s2 : Nat)] 37 (0, 0))) := (grown_block HGV2.out (lt_of_heap HZV1.out) (ne_map (w := V1) HZV1.out HOV1.out.was)).trans HZV1.out
      go_region_held3 (fun w' => ((w'.cell? ⟨A, 0, none⟩ = some (.int .i64 h) ∧ w'.cell? ⟨A, 1, none⟩ = some (.int .i64 p)) ∧ w'.cell? ⟨q, 2, none⟩ = some (.map (some s.Y))) ∧ w'.cell? ⟨Zb, 0, none⟩ = some (.int .i64 s0) ∧ w'.cell? ⟨Zb, 1, none⟩ = some (.int .i64 s1) ∧ w'.cell? ⟨Zb, 2, none⟩ = some (.int .u32 (s2 : Nat))) (first | exact HS7.out _ (Below.refl _ _).drew | exact HS7.out _ (Below.refl _ _) | exact ⟨⟨cells2' HGAV2.out, HOV2.out.cells.2.2.1⟩, (cells3' HZV2.out).1⟩) (fail)
      all_goals
        clear HS7 HUP
        have HST2 : Hid (OvStep s w V2) := HST1.out.drew.grown HGV2.out (.inr (.inl rfl))
        go_wp2_with fail
        obtain ⟨V3, hup, hm, hg⟩ := (HOV2.out.base.drew).del HK.out 0
        have HUP : (Builtin.delete_ #[68, 32] 0 #[.map (some s.X), .agg #[.int .i64 h, .int .i64 p]]).run Tryz.prog V2.drew = .ok (.tuple #[]) V3 := hup
        have HMV3 : Hid (MapL V3 s.X (cutL ({ O with was := putL O.was (h, p) (s0, s1, s2) } : Ov).base (h, p))) := hm
        have HGV3 : Hid (V2.drew.grownBy V3 (some s.X)) := hg
        clear hup hm hg
        have HS6 : Hid (∀ w', Below V2.heap.size V2 w' → (w'.cell? ⟨A, 0, none⟩ = some (.int .i64 h) ∧ w'.cell? ⟨A, 1, none⟩ = some (.int .i64 p)) ∧ w'.cell? ⟨q, 1, none⟩ = some (.map (some s.X))) := fun w' hb => ⟨cells2' ((hb.block A (lt_of_heap HGAV2.out)).trans HGAV2.out), (HOV2.out.kept hb).cells.2.1⟩
        have HOV3 : Hid (OvAt V3 q s ({ O with was := putL O.was (h, p) (s0, s1, s2), base := cutL O.base (h, p) })) := HOV2.out.drew.baseTo HGV3.out HMV3.out
        have HGAV3 : Hid (V3.heap[A]? = some (.cells #[.int .i64 h, .int .i64 p] 32 (0, 0))) := (grown_block HGV3.out (lt_of_heap HGAV2.out) (ne_map (w := V2) HGAV2.out HOV2.out.base)).trans HGAV2.out
        go_region_held3 (fun w' => (w'.cell? ⟨A, 0, none⟩ = some (.int .i64 h) ∧ w'.cell? ⟨A, 1, none⟩ = some (.int .i64 p)) ∧ w'.cell? ⟨q, 1, none⟩ = some (.map (some s.X))) (first | exact HS6.out _ (Below.refl _ _).drew | exact HS6.out _ (Below.refl _ _) | exact ⟨cells2' HGAV3.out, HOV3.out.cells.2.1⟩) (fail)
        all_goals
          clear HS6 HUP
          have HST3 : Hid (OvStep s w V3) := HST2.out.drew.grown HGV3.out (.inl rfl)
          go_wp2
          go_ret
          exact ⟨rfl, HOV3.out, HST3.out⟩
end Go.Proofs.YtjhkcdnfnmglhaaGreatDoor

/- Contract of an overlay's Sum. -/
namespace Go.Proofs.YtjhkcdnfnmglhaaGreatDoor
open Go.RowKit Go.Maps
set_option linter.unusedVariables false
set_option maxRecDepth 20000

set_option maxHeartbeats 2000000 in
theorem sum12_any (w : World) (q : Nat) (s : OvB) (O : Ov) (h p : Int) (u : Nat) (hO : OvAt w q s O) (hk : KI (h, p)) (hl : OvSmall O) :
    Calls Tryz.prog 12 #[.pointer (some ⟨q, 0, none⟩), .agg #[.int .i64 h, .int .i64 p], .int .u32 (u : Nat)] w fun x w' => x = .returned (.int .i64 (sumO O (h, p) u).2) ∧ OvAt w' q s (sumO O (h, p) u).1 ∧ OvStep s w w' := by
  have HK : Hid (KI (h, p)) := hk
  have HO : Hid (OvAt w q s O) := hO
  have HLEN : Hid (O.base.length ≤ 490 ∧ O.was.length ≤ 490 ∧ O.fresh.length ≤ 490) := hl
  clear hO hk hl
  rcases hf : findM O.fresh (h, p) with _ | ⟨s0, s1, s2⟩
  · have HG : Hid (sumO O (h, p) u = (O, 2)) := by unfold Hid sumO; rw [hf]
    rw [HG.out]
    have HLB : Hid (∀ W', MapL W' s.Z O.fresh → (Instr.lookup 68 (.map (some s.Z)) (.agg #[.int .i64 h, .int .i64 p]) true).run Tryz.prog W' = .ok (.tuple #[.agg #[.int .i64 0, .int .i64 0, .int .u32 0], .bool false]) W') := fun W' hm => by
      have h9 := hm.look (k := (h, p)) HK.out
      rw [hf] at h9
      exact h9
    clear hf HG
    go_enter Tryz.func12, Tryz.ntmps12
    go_wp2_with fail
    obtain ⟨V, hW⟩ : ∃ W, W = w.alloc (.cells #[.int .i64 h, .int .i64 p] 32) := ⟨_, rfl⟩
    have HB0 : Hid (Below w.heap.size w V) := by rw [hW]; exact (Below.refl _ _).alloc (Nat.le_refl _) _
    have HGA : Hid (V.heap[w.heap.size]? = some (.cells #[.int .i64 h, .int .i64 p] 32 (0, 0))) := by rw [hW]; exact heap_alloc_new w _
    have HOV : Hid (OvAt V q s O) := HO.out.kept HB0.out
    rw [← hW]
    obtain ⟨A, hA⟩ : ∃ A, A = w.heap.size := ⟨_, rfl⟩
    rw [← hA] at HGA
    try rw [← hA]
    have HA : Hid (A = w.heap.size) := hA
    clear hW hA
    have HS9 : Hid (∀ w', Below V.heap.size V w' → (w'.cell? ⟨A, 0, none⟩ = some (.int .i64 h) ∧ w'.cell? ⟨A, 1, none⟩ = some (.int .i64 p)) ∧ w'.cell? ⟨q, 3, none⟩ = some (.map (some s.Z)) ∧ (Instr.lookup 68 (.map (some s.Z)) (.agg #[.int .i64 h, .int .i64 p]) true).run Tryz.prog w' = .ok (.tuple #[.agg #[.int .i64 0, .int .i64 0, .int .u32 0], .bool false]) w') := fun w' hb => ⟨cells2' ((hb.block A (lt_of_heap HGA.out)).trans HGA.out), (HOV.out.kept hb).cells.2.2.2, HLB.out w' (HOV.out.fresh.kept hb)⟩
    go_region_held3 (fun w' => (w'.cell? ⟨A, 0, none⟩ = some (.int .i64 h) ∧ w'.cell? ⟨A, 1, none⟩ = some (.int .i64 p)) ∧ w'.cell? ⟨q, 3, none⟩ = some (.map (some s.Z)) ∧ (Instr.lookup 68 (.map (some s.Z)) (.agg #[.int .i64 h, .int .i64 p]) true).run Tryz.prog w' = .ok (.tuple #[.agg #[.int .i64 0, .int .i64 0, .int .u32 0], .bool false]) w') (first | exact HS9.out _ (Below.refl _ _).drew | exact HS9.out _ ((Below.refl _ _).drew.alloc (Nat.le_refl _) _)) (fail)
    all_goals
      have HZV1 : Hid ((V.alloc (.cells #[.int .i64 0, .int .i64 0, .int .u32 0] 37)).drew.heap[V.heap.size]? = some (.cells #[.int .i64 0, .int .i64 0, .int .u32 0] 37 (0, 0))) := heap_alloc_new V _
      have HBV1 : Hid (Below V.heap.size V (V.alloc (.cells #[.int .i64 0, .int .i64 0, .int .u32 0] 37)).drew) := ((Below.refl _ _).alloc (Nat.le_refl _) _).drew
      generalize (V.alloc (.cells #[.int .i64 0, .int .i64 0, .int .u32 0] 37)).drew = V1 at *
      obtain ⟨Zb, hZb⟩ : ∃ Zb, Zb = V.heap.size := ⟨_, rfl⟩
      have HGV1 : Hid (Zb = V.heap.size) := hZb
      rw [← hZb] at HZV1
      try rw [← hZb]
      clear hZb HS9
      have HOE : Hid (OvAt V1 q s O) := HOV.out.kept HBV1.out
      have HST : Hid (OvStep s w V1) := .ofBelow (HB0.out.trans (HBV1.out.mono HB0.out.size))
      go_wp2
      go_ret
      exact ⟨rfl, HOE.out, HST.out⟩
  · have HG : Hid (sumO O (h, p) u = ({ O with fresh := putL O.fresh (h, p) (s0, s1, u) }, 0)) := by unfold Hid sumO; rw [hf]; rfl
    rw [HG.out]
    have HLB : Hid (∀ W', MapL W' s.Z O.fresh → (Instr.lookup 68 (.map (some s.Z)) (.agg #[.int .i64 h, .int .i64 p]) true).run Tryz.prog W' = .ok (.tuple #[.agg #[.int .i64 s0, .int .i64 s1, .int .u32 (s2 : Nat)], .bool true]) W') := fun W' hm => by
      have h9 := hm.look (k := (h, p)) HK.out
      rw [hf] at h9
      exact h9
    clear hf HG
    go_enter Tryz.func12, Tryz.ntmps12
    go_wp2_with fail
    obtain ⟨V, hW⟩ : ∃ W, W = w.alloc (.cells #[.int .i64 h, .int .i64 p] 32) := ⟨_, rfl⟩
    have HB0 : Hid (Below w.heap.size w V) := by rw [hW]; exact (Below.refl _ _).alloc (Nat.le_refl _) _
    have HGA : Hid (V.heap[w.heap.size]? = some (.cells #[.int .i64 h, .int .i64 p] 32 (0, 0))) := by rw [hW]; exact heap_alloc_new w _
    have HOV : Hid (OvAt V q s O) := HO.out.kept HB0.out
    rw [← hW]
    obtain ⟨A, hA⟩ : ∃ A, A = w.heap.size := ⟨_, rfl⟩
    rw [← hA] at HGA
    try rw [← hA]
    have HA : Hid (A = w.heap.size) := hA
    clear hW hA
    have HS9 : Hid (∀ w', Below V.heap.size V w' → (w'.cell? ⟨A, 0, none⟩ = some (.int .i64 h) ∧ w'.cell? ⟨A, 1, none⟩ = some (.int .i64 p)) ∧ w'.cell? ⟨q, 3, none⟩ = some (.map (some s.Z)) ∧ (Instr.lookup 68 (.map (some s.Z)) (.agg #[.int .i64 h, .int .i64 p]) true).run Tryz.prog w' = .ok (.tuple #[.agg #[.int .i64 s0, .int .i64 s1, .int .u32 (s2 : Nat)], .bool true]) w') := fun w' hb => ⟨cells2' ((hb.block A (lt_of_heap HGA.out)).trans HGA.out), (HOV.out.kept hb).cells.2.2.2, HLB.out w' (HOV.out.fresh.kept hb)⟩
    go_region_held3 (fun w' => (w'.cell? ⟨A, 0, none⟩ = some (.int .i64 h) ∧ w'.cell? ⟨A, 1, none⟩ = some (.int .i64 p)) ∧ w'.cell? ⟨q, 3, none⟩ = some (.map (some s.Z)) ∧ (Instr.lookup 68 (.map (some s.Z)) (.agg #[.int .i64 h, .int .i64 p]) true).run Tryz.prog w' = .ok (.tuple #[.agg #[.int .i64 s0, .int .i64 s1, .int .u32 (s2 : Nat)], .bool true]) w') (first | exact HS9.out _ (Below.refl _ _).drew | exact HS9.out _ ((Below.refl _ _).drew.alloc (Nat.le_refl _) _)) (fail)
    all_goals
      have HZV1 : Hid ((V.alloc (.cells #[.int .i64 s0, .int .i64 s1, .int .u32 (s2 : Nat)] 37)).drew.heap[V.heap.size]? = some (.cells #[.int .i64 s0, .int .i64 s1, .int .u32 (s2 : Nat)] 37 (0, 0))) := heap_alloc_new V _
      have HBV1 : Hid (Below V.heap.size V (V.alloc (.cells #[.int .i64 s0, .int .i64 s1, .int .u32 (s2 : Nat)] 37)).drew) := ((Below.refl _ _).alloc (Nat.le_refl _) _).drew
      generalize (V.alloc (.cells #[.int .i64 s0, .int .i64 s1, .int .u32 (s2 : Nat)] 37)).drew = V1 at *
      obtain ⟨Zb, hZb⟩ : ∃ Zb, Zb = V.heap.size := ⟨_, rfl⟩
      have HGV1 : Hid (Zb = V.heap.size) := hZb
      rw [← hZb] at HZV1
      try rw [← hZb]
      clear hZb HS9
      obtain ⟨⟨z0, z1, z2⟩, zf⟩ := cells3' HZV1.out
      have f2 := zf 2
      clear zf
      have HBW : Hid (Below V.heap.size V (V1.setCell ⟨Zb, 2, none⟩ (.int .u32 (u : Nat)))) := HBV1.out.setCell (Nat.le_of_eq HGV1.out.symm) _
      have HZW : Hid ((V1.setCell ⟨Zb, 2, none⟩ (.int .u32 (u : Nat))).heap[Zb]? = some (.cells #[.int .i64 s0, .int .i64 s1, .int .u32 (u : Nat)] 37 (0, 0))) := (heap_set_row HZV1.out 2 _).trans rfl
      go_wp2_with fail
      generalize (V1.setCell ⟨Zb, 2, none⟩ (.int .u32 (u : Nat))) = V1b at *
      clear z0 z1 z2 f2
      have HOV1 : Hid (OvAt V1b q s O) := HOV.out.kept HBW.out
      have HGA1 : Hid (V1b.heap[A]? = some (.cells #[.int .i64 h, .int .i64 p] 32 (0, 0))) := (HBW.out.block A (lt_of_heap HGA.out)).trans HGA.out
      have HST1 : Hid (OvStep s w V1b) := .ofBelow (HB0.out.trans (HBW.out.mono HB0.out.size))
      obtain ⟨V2, hup, hm, hg⟩ := (HOV1.out.fresh.drew).put (by show O.fresh.length < 100000; have := HLEN.out; omega) HK.out (s0, s1, u)
      have HUP : (Instr.mapUpdate 68 (.map (some s.Z)) (.agg #[.int .i64 h, .int .i64 p]) (.agg #[.int .i64 s0, .int .i64 s1, .int .u32 (u : Nat)])).run Tryz.prog V1b.drew = .ok () V2 := hup
      have HMV2 : Hid (MapL V2 s.Z (putL (O).fresh (h, p) (s0, s1, u))) := hm
      have HGV2 : Hid (V1b.drew.grownBy V2 (some s.Z)) := hg
      clear hup hm hg
      have HS7 : Hid (∀ w', Below V1b.heap.size V1b w' → ((w'.cell? ⟨A, 0, none⟩ = some (.int .i64 h) ∧ w'.cell? ⟨A, 1, none⟩ = some (.int .i64 p)) ∧ w'.cell? ⟨q, 3, none⟩ = some (.map (some s.Z))) ∧ w'.cell? ⟨Zb, 0, none⟩ = some (.int .i64 s0) ∧ w'.cell? ⟨Zb, 1, none⟩ = some (.int .i64 s1) ∧ w'.cell? ⟨Zb, 2, none⟩ = some (.int .u32 (u : Nat))) := fun w' hb => ⟨⟨cells2' ((hb.block A (lt_of_heap HGA1.out)).trans HGA1.out), (HOV1.out.kept hb).cells.2.2.2⟩, (cells3' ((hb.block Zb (lt_of_heap HZW.out)).trans HZW.out)).1⟩
      have HOV2 : Hid (OvAt V2 q s ({ O with fresh := putL O.fresh (h, p) (s0, s1, u) })) := HOV1.out.drew.freshTo HGV2.out HMV2.out
      have HGAV2 : Hid (V2.heap[A]? = some (.cells #[.int .i64 h, .int .i64 p] 32 (0, 0))) := (grown_block HGV2.out (lt_of_heap HGA1.out) (ne_map (w := V1b) HGA1.out HOV1.out.fresh)).trans HGA1.out
      have HZV2 : Hid (V2.heap[Zb]? = some (.cells #[.int .i64 s0, .int .i64 s1, .int .u32 (u : Nat)] 37 (0, 0))) := (grown_block HGV2.out (lt_of_heap HZW.out) (ne_map (w := V1b) HZW.out HOV1.out.fresh)).trans HZW.out
      go_region_held3 (fun w' => ((w'.cell? ⟨A, 0, none⟩ = some (.int .i64 h) ∧ w'.cell? ⟨A, 1, none⟩ = some (.int .i64 p)) ∧ w'.cell? ⟨q, 3, none⟩ = some (.map (some s.Z))) ∧ w'.cell? ⟨Zb, 0, none⟩ = some (.int .i64 s0) ∧ w'.cell? ⟨Zb, 1, none⟩ = some (.int .i64 s1) ∧ w'.cell? ⟨Zb, 2, none⟩ = some (.int .u32 (u : Nat))) (first | exact HS7.out _ (Below.refl _ _).drew | exact HS7.out _ (Below.refl _ _) | exact ⟨⟨cells2' HGAV2.out, HOV2.out.cells.2.2.2⟩, (cells3' HZV2.out).1⟩) (fail)
      all_goals
        clear HS7 HUP
        have HST2 : Hid (OvStep s w V2) := HST1.out.drew.grown HGV2.out (.inr (.inr rfl))
        go_wp2
        go_ret
        exact ⟨rfl, HOV2.out, HST2.out⟩
end Go.Proofs.YtjhkcdnfnmglhaaGreatDoor

/- Contract of an overlay's Drop. -/
namespace Go.Proofs.YtjhkcdnfnmglhaaGreatDoor
open Go.RowKit Go.Maps
set_option linter.unusedVariables false
set_option maxRecDepth 20000

set_option maxHeartbeats 2000000 in
theorem drop12_any (w : World) (q : Nat) (s : OvB) (O : Ov) (t : Int) (h p : Int) (hO : OvAt w q s O) (hk : KI (h, p)) (hl : OvSmall O) (hok : OvOk O t) (ht : Steps w) (hm : ∀ m ∈ O.fresh, I64 m.s) :
    Calls Tryz.prog 10 #[.pointer (some ⟨q, 0, none⟩), .agg #[.int .i64 h, .int .i64 p]] w fun x w' => x = .returned (.bool (dropO O (h, p)).2) ∧ OvAt w' q s (dropO O (h, p)).1 ∧ OvStep s w w' := by
  have HK : Hid (KI (h, p)) := hk
  have HO : Hid (OvAt w q s O) := hO
  have HLEN : Hid (O.base.length ≤ 490 ∧ O.was.length ≤ 490 ∧ O.fresh.length ≤ 490) := hl
  have HT : Hid (Steps w) := ht
  rcases hf : findM O.fresh (h, p) with _ | ⟨s0, s1, s2⟩
  · have HG : Hid (dropO O (h, p) = (retireO O (h, p), (findM O.base (h, p)).isSome)) := by unfold Hid dropO; rw [hf]
    rw [HG.out]
    have HLB : Hid (∀ W', MapL W' s.Z O.fresh → (Instr.lookup 68 (.map (some s.Z)) (.agg #[.int .i64 h, .int .i64 p]) true).run Tryz.prog W' = .ok (.tuple #[.agg #[.int .i64 0, .int .i64 0, .int .u32 0], .bool false]) W') := fun W' hm => by
      have h9 := hm.look (k := (h, p)) HK.out
      rw [hf] at h9
      exact h9
    clear hf HG hO hk hl hok ht hm
    go_enter Tryz.func10, Tryz.ntmps10
    go_wp2_with fail
    obtain ⟨V, hW⟩ : ∃ W, W = w.alloc (.cells #[.int .i64 h, .int .i64 p] 32) := ⟨_, rfl⟩
    have HB0 : Hid (Below w.heap.size w V) := by rw [hW]; exact (Below.refl _ _).alloc (Nat.le_refl _) _
    have HGA : Hid (V.heap[w.heap.size]? = some (.cells #[.int .i64 h, .int .i64 p] 32 (0, 0))) := by rw [hW]; exact heap_alloc_new w _
    have HOV : Hid (OvAt V q s O) := HO.out.kept HB0.out
    rw [← hW]
    obtain ⟨A, hA⟩ : ∃ A, A = w.heap.size := ⟨_, rfl⟩
    rw [← hA] at HGA
    try rw [← hA]
    have HA : Hid (A = w.heap.size) := hA
    clear hW hA
    have HS9 : Hid (∀ w', Below V.heap.size V w' → (w'.cell? ⟨A, 0, none⟩ = some (.int .i64 h) ∧ w'.cell? ⟨A, 1, none⟩ = some (.int .i64 p)) ∧ w'.cell? ⟨q, 3, none⟩ = some (.map (some s.Z)) ∧ (Instr.lookup 68 (.map (some s.Z)) (.agg #[.int .i64 h, .int .i64 p]) true).run Tryz.prog w' = .ok (.tuple #[.agg #[.int .i64 0, .int .i64 0, .int .u32 0], .bool false]) w') := fun w' hb => ⟨cells2' ((hb.block A (lt_of_heap HGA.out)).trans HGA.out), (HOV.out.kept hb).cells.2.2.2, HLB.out w' (HOV.out.fresh.kept hb)⟩
    go_region_held3 (fun w' => (w'.cell? ⟨A, 0, none⟩ = some (.int .i64 h) ∧ w'.cell? ⟨A, 1, none⟩ = some (.int .i64 p)) ∧ w'.cell? ⟨q, 3, none⟩ = some (.map (some s.Z)) ∧ (Instr.lookup 68 (.map (some s.Z)) (.agg #[.int .i64 h, .int .i64 p]) true).run Tryz.prog w' = .ok (.tuple #[.agg #[.int .i64 0, .int .i64 0, .int .u32 0], .bool false]) w') (first | exact HS9.out _ (Below.refl _ _).drew | exact HS9.out _ ((Below.refl _ _).drew.alloc (Nat.le_refl _) _)) (fail)
    all_goals
      have HZV1 : Hid ((V.alloc (.cells #[.int .i64 0, .int .i64 0, .int .u32 0] 37)).drew.heap[V.heap.size]? = some (.cells #[.int .i64 0, .int .i64 0, .int .u32 0] 37 (0, 0))) := heap_alloc_new V _
      have HBV1 : Hid (Below V.heap.size V (V.alloc (.cells #[.int .i64 0, .int .i64 0, .int .u32 0] 37)).drew) := ((Below.refl _ _).alloc (Nat.le_refl _) _).drew
      generalize (V.alloc (.cells #[.int .i64 0, .int .i64 0, .int .u32 0] 37)).drew = V1 at *
      obtain ⟨Zb, hZb⟩ : ∃ Zb, Zb = V.heap.size := ⟨_, rfl⟩
      have HGV1 : Hid (Zb = V.heap.size) := hZb
      rw [← hZb] at HZV1
      try rw [← hZb]
      clear hZb HS9
      have HOE : Hid (OvAt V1 q s O) := HOV.out.kept HBV1.out
      have HST : Hid (OvStep s w V1) := .ofBelow (HB0.out.trans (HBV1.out.mono HB0.out.size))
      obtain ⟨k0, k1⟩ := cells2' ((HBV1.out.block A (lt_of_heap HGA.out)).trans HGA.out)
      have HRE := retire12_any V1 q s O h p HOE.out HK.out HLEN.out
      go_wp2_with fail
      refine HRE.mono ?_
      rintro x V2 ⟨rfl, ho2, hs2⟩
      have HO2 : Hid (OvAt V2 q s (retireO O (h, p))) := ho2
      have HS2 : Hid (OvStep s w V2) := HST.out.trans hs2
      clear ho2 hs2 HRE k0 k1
      go_wp2
      go_ret
      exact ⟨rfl, HO2.out, HS2.out⟩
  · have hb : findM O.base (h, p) = none := by
      cases hb : findM O.base (h, p) with
      | none => rfl
      | some e => have := (hok.apart _ _ hb).2; rw [hf] at this; cases this
    have HG : Hid (dropO O (h, p) = (cutF O (h, p) s0, true)) := by unfold Hid dropO; rw [hf]; show (retireO (cutF O (h, p) s0) (h, p), true) = _; rw [retire_none (by exact hb)]
    rw [HG.out]
    have HGG : Hid (GoodG O.n O.B [s0]) := slot_good hok (c := 2) (k := (h, p)) (e := (s0, s1, s2)) ⟨by decide, hf⟩
    have HI : Hid (I64 s0) := hm _ (find_mem hf)
    have HLB : Hid (∀ W', MapL W' s.Z O.fresh → (Instr.lookup 68 (.map (some s.Z)) (.agg #[.int .i64 h, .int .i64 p]) true).run Tryz.prog W' = .ok (.tuple #[.agg #[.int .i64 s0, .int .i64 s1, .int .u32 (s2 : Nat)], .bool true]) W') := fun W' hm => by
      have h9 := hm.look (k := (h, p)) HK.out
      rw [hf] at h9
      exact h9
    clear hf HG hb hO hk hl hok ht hm
    go_enter Tryz.func10, Tryz.ntmps10
    go_wp2_with fail
    obtain ⟨V, hW⟩ : ∃ W, W = w.alloc (.cells #[.int .i64 h, .int .i64 p] 32) := ⟨_, rfl⟩
    have HB0 : Hid (Below w.heap.size w V) := by rw [hW]; exact (Below.refl _ _).alloc (Nat.le_refl _) _
    have HGA : Hid (V.heap[w.heap.size]? = some (.cells #[.int .i64 h, .int .i64 p] 32 (0, 0))) := by rw [hW]; exact heap_alloc_new w _
    have HOV : Hid (OvAt V q s O) := HO.out.kept HB0.out
    rw [← hW]
    obtain ⟨A, hA⟩ : ∃ A, A = w.heap.size := ⟨_, rfl⟩
    rw [← hA] at HGA
    try rw [← hA]
    have HA : Hid (A = w.heap.size) := hA
    clear hW hA
    have HS9 : Hid (∀ w', Below V.heap.size V w' → (w'.cell? ⟨A, 0, none⟩ = some (.int .i64 h) ∧ w'.cell? ⟨A, 1, none⟩ = some (.int .i64 p)) ∧ w'.cell? ⟨q, 3, none⟩ = some (.map (some s.Z)) ∧ (Instr.lookup 68 (.map (some s.Z)) (.agg #[.int .i64 h, .int .i64 p]) true).run Tryz.prog w' = .ok (.tuple #[.agg #[.int .i64 s0, .int .i64 s1, .int .u32 (s2 : Nat)], .bool true]) w') := fun w' hb => ⟨cells2' ((hb.block A (lt_of_heap HGA.out)).trans HGA.out), (HOV.out.kept hb).cells.2.2.2, HLB.out w' (HOV.out.fresh.kept hb)⟩
    go_region_held3 (fun w' => (w'.cell? ⟨A, 0, none⟩ = some (.int .i64 h) ∧ w'.cell? ⟨A, 1, none⟩ = some (.int .i64 p)) ∧ w'.cell? ⟨q, 3, none⟩ = some (.map (some s.Z)) ∧ (Instr.lookup 68 (.map (some s.Z)) (.agg #[.int .i64 h, .int .i64 p]) true).run Tryz.prog w' = .ok (.tuple #[.agg #[.int .i64 s0, .int .i64 s1, .int .u32 (s2 : Nat)], .bool true]) w') (first | exact HS9.out _ (Below.refl _ _).drew | exact HS9.out _ ((Below.refl _ _).drew.alloc (Nat.le_refl _) _)) (fail)
    all_goals
      have HZV1 : Hid ((V.alloc (.cells #[.int .i64 s0, .int .i64 s1, .int .u32 (s2 : Nat)] 37)).drew.heap[V.heap.size]? = some (.cells #[.int .i64 s0, .int .i64 s1, .int .u32 (s2 : Nat)] 37 (0, 0))) := heap_alloc_new V _
      have HBV1 : Hid (Below V.heap.size V (V.alloc (.cells #[.int .i64 s0, .int .i64 s1, .int .u32 (s2 : Nat)] 37)).drew) := ((Below.refl _ _).alloc (Nat.le_refl _) _).drew
      generalize (V.alloc (.cells #[.int .i64 s0, .int .i64 s1, .int .u32 (s2 : Nat)] 37)).drew = V1 at *
      obtain ⟨Zb, hZb⟩ : ∃ Zb, Zb = V.heap.size := ⟨_, rfl⟩
      have HGV1 : Hid (Zb = V.heap.size) := hZb
      rw [← hZb] at HZV1
      try rw [← hZb]
      clear hZb HS9
      have HOV1 : Hid (OvAt V1 q s O) := HOV.out.kept HBV1.out
      have HGA1 : Hid (V1.heap[A]? = some (.cells #[.int .i64 h, .int .i64 p] 32 (0, 0))) := (HBV1.out.block A (lt_of_heap HGA.out)).trans HGA.out
      have HST1 : Hid (OvStep s w V1) := .ofBelow (HB0.out.trans (HBV1.out.mono HB0.out.size))
      have HT1 : Hid (Steps V1) := HT.out.ov HO.out HST1.out
      have HSG : Hid (∀ w', Below V1.heap.size V1 w' → w'.cell? ⟨q, 0, none⟩ = some (.pointer (some ⟨s.h, 0, none⟩)) ∧ w'.cell? ⟨Zb, 0, none⟩ = some (.int .i64 s0)) := fun w' hb => ⟨(HOV1.out.kept hb).cells.1, (cells3' ((hb.block Zb (lt_of_heap HZV1.out)).trans HZV1.out)).1.1⟩
      have HGI : Hid (∀ W, Below V1.heap.size V1 W → Calls Tryz.prog 40 #[.pointer (some ⟨s.h, 0, none⟩), .slice (some ⟨W.heap.size, 0, none⟩) 1 1] (W.alloc (.cells #[.int .i64 s0] 3)) fun x w' => x = .returned (.int .i64 0) ∧ BoardAt w' s.h s.p s.b s.f s.cap O.n (giveB O.B [s0]) ∧ Only2 s.b s.f V1 w') := fun W hb => by
        have hb2 : Below V1.heap.size V1 (W.alloc (.cells #[.int .i64 s0] 3)) := hb.alloc hb.size _
        have ho := HOV1.out.kept hb2
        have hob := HOV1.out.kept hb
        have l1 := lt_of_heap hob.board.row.body
        have l2 : s.f < W.heap.size := by obtain ⟨cur, h2, _⟩ := hob.board.nums; exact lt_of_heap h2
        refine (give_any _ s.h s.p s.b s.f s.cap O.n O.B _ [s0] ho.board (HT1.out.below hb2) (Nums.one HI.out) (by simp [Value.ownBlock]; omega) (by simp [Value.ownBlock]; omega) ho.pos).mono ?_
        rintro x w' ⟨⟨-, rfl, h3⟩ | ⟨h3, -⟩, h4⟩
        · exact ⟨rfl, h3, (Only2.ofBelow hb2).trans h4⟩
        · exact absurd HGG.out h3
      go_wp2_with fail
      go_region_held3 (fun w' => w'.cell? ⟨q, 0, none⟩ = some (.pointer (some ⟨s.h, 0, none⟩)) ∧ w'.cell? ⟨Zb, 0, none⟩ = some (.int .i64 s0)) (first | exact HSG.out _ (Below.refl _ _).drew | exact HSG.out _ ((Below.refl _ _).drew.alloc (Nat.le_refl _) _) | exact HSGE) (first
        | (go_at_call 40; refine (HGI.out _ (Below.refl _ _).drew).mono ?_; rintro x V2 ⟨rfl, hbo, hon⟩
           have HOV2 : Hid (OvAt V2 q s { O with B := giveB O.B [s0] }) := HOV1.out.boardTo hon hbo
           have HZ0 := HOV1.out.headOff
           have HGA2 : Hid (V2.heap[A]? = some (.cells #[.int .i64 h, .int .i64 p] 32 (0, 0))) := (hon.heap (lt_of_heap HGA1.out) (ne_type HGA1.out HOV1.out.board.row.body (by decide)) (free_ne HGA1.out HOV1.out.board (by decide))).trans HGA1.out
           have HZ2 : Hid (V2.heap[Zb]? = some (.cells #[.int .i64 s0, .int .i64 s1, .int .u32 (s2 : Nat)] 37 (0, 0))) := (hon.heap (lt_of_heap HZV1.out) (ne_type HZV1.out HOV1.out.board.row.body (by decide)) (free_ne HZV1.out HOV1.out.board (by decide))).trans HZV1.out
           have HST2 : Hid (OvStep s w V2) := HST1.out.trans (.ofOnly2 hon)
           have HSGE : V2.cell? ⟨q, 0, none⟩ = some (.pointer (some ⟨s.h, 0, none⟩)) ∧ V2.cell? ⟨Zb, 0, none⟩ = some (.int .i64 s0) := ⟨HOV2.out.cells.1, (cells3' HZ2.out).1.1⟩
           clear hbo hon HZ0))
      all_goals
        clear HSGE HSG HGI
        go_wp2_with fail
        obtain ⟨V3, hup, hm, hg⟩ := (HOV2.out.fresh.drew).del HK.out 0
        have HUP : (Builtin.delete_ #[68, 32] 0 #[.map (some s.Z), .agg #[.int .i64 h, .int .i64 p]]).run Tryz.prog V2.drew = .ok (.tuple #[]) V3 := hup
        have HMV3 : Hid (MapL V3 s.Z (cutL ({ O with B := giveB O.B [s0] } : Ov).fresh (h, p))) := hm
        have HGV3 : Hid (V2.drew.grownBy V3 (some s.Z)) := hg
        clear hup hm hg
        have HS6 : Hid (∀ w', Below V2.heap.size V2 w' → (w'.cell? ⟨A, 0, none⟩ = some (.int .i64 h) ∧ w'.cell? ⟨A, 1, none⟩ = some (.int .i64 p)) ∧ w'.cell? ⟨q, 3, none⟩ = some (.map (some s.Z))) := fun w' hb => ⟨cells2' ((hb.block A (lt_of_heap HGA2.out)).trans HGA2.out), (HOV2.out.kept hb).cells.2.2.2⟩
        have HOV3 : Hid (OvAt V3 q s ({ O with B := giveB O.B [s0], fresh := cutL O.fresh (h, p) })) := HOV2.out.drew.freshTo HGV3.out HMV3.out
        have HGAV3 : Hid (V3.heap[A]? = some (.cells #[.int .i64 h, .int .i64 p] 32 (0, 0))) := (grown_block HGV3.out (lt_of_heap HGA2.out) (ne_map (w := V2) HGA2.out HOV2.out.fresh)).trans HGA2.out
        go_region_held3 (fun w' => (w'.cell? ⟨A, 0, none⟩ = some (.int .i64 h) ∧ w'.cell? ⟨A, 1, none⟩ = some (.int .i64 p)) ∧ w'.cell? ⟨q, 3, none⟩ = some (.map (some s.Z))) (first | exact HS6.out _ (Below.refl _ _).drew | exact HS6.out _ (Below.refl _ _) | exact ⟨cells2' HGAV3.out, HOV3.out.cells.2.2.2⟩) (fail)
        all_goals
          clear HS6 HUP
          have HST3 : Hid (OvStep s w V3) := HST2.out.drew.grown HGV3.out (.inr (.inr rfl))
          go_wp2
          go_ret
          exact ⟨rfl, HOV3.out, HST3.out⟩
end Go.Proofs.YtjhkcdnfnmglhaaGreatDoor

/- Contract of an overlay's Put. -/
namespace Go.Proofs.YtjhkcdnfnmglhaaGreatDoor
open Go.RowKit Go.Maps
set_option linter.unusedVariables false
set_option maxRecDepth 20000

theorem ne_ent {w : World} {q : Nat} {s : OvB} {O : Ov} {E : Nat} {C : Array Value} {g : Nat × Nat} (h : OvAt w q s O) (hz : w.heap[E]? = some (.cells C 37 g)) : (q ≠ E ∧ s.h ≠ E ∧ s.p ≠ E ∧ s.b ≠ E ∧ s.f ≠ E) ∧ s.X ≠ E ∧ s.Y ≠ E ∧ s.Z ≠ E := by
  obtain ⟨cur, h2, _⟩ := h.board.nums
  exact ⟨⟨ne_type h.head hz (by decide), ne_type h.board.head hz (by decide), ne_type h.board.row.head hz (by decide), ne_type h.board.row.body hz (by decide), ne_type h2 hz (by decide)⟩, (ne_map hz h.base).symm, (ne_map hz h.was).symm, (ne_map hz h.fresh).symm⟩
theorem OvAt.over {w w' : World} {q : Nat} {s : OvB} {O : Ov} {E : Nat} {C : Array Value} {g : Nat × Nat} (h : OvAt w q s O) (hz : w.heap[E]? = some (.cells C 37 g)) (hk : ∀ i, i ≠ E → w'.heap[i]? = w.heap[i]?) : OvAt w' q s O := by
  obtain ⟨⟨a, b, c, d, e⟩, x, y, z⟩ := ne_ent h hz
  exact {
    head := (hk q a).trans h.head
    board := h.board.same (hk _ b) (hk _ c) (hk _ d) (hk _ e)
    base := h.base.same (hk _ x)
    was := h.was.same (hk _ y)
    fresh := h.fresh.same (hk _ z)
    ne := h.ne
    pos := h.pos }
theorem OvAt.set3 {w : World} {q : Nat} {s : OvB} {O : Ov} {E : Nat} {C : Array Value} {g : Nat × Nat} (h : OvAt w q s O) (hz : w.heap[E]? = some (.cells C 37 g)) (x y z : Value) : OvAt (((w.setCell ⟨E, 0, none⟩ x).setCell ⟨E, 1, none⟩ y).setCell ⟨E, 2, none⟩ z) q s O :=
  h.over hz fun i hi => (Below.heap_setCell _ ⟨E, 2, none⟩ z i hi).trans ((Below.heap_setCell _ ⟨E, 1, none⟩ y i hi).trans (Below.heap_setCell _ ⟨E, 0, none⟩ x i hi))
theorem field_gen (a b : Int) (c : Nat) (w : World) : (Instr.field 37 (.agg #[.int .i64 a, .int .i64 b, .int .u32 (c : Nat)]) 1).run Tryz.prog w = .ok (.int .i64 b) w := by kernel_rfl
theorem retire_B12 (O : Ov) (B : Nat → Bool) (k : Ky) : retireO { O with B := B } k = { retireO O k with B := B } := by
  cases h : findM O.base k with
  | none => rw [retire_none h, retire_none (O := { O with B := B }) h]
  | some e => rw [retire_some h, retire_some (O := { O with B := B }) h]
set_option maxHeartbeats 4000000 in
theorem put12_any (w : World) (q : Nat) (s : OvB) (O : Ov) (t : Int) (h p : Int) (hO : OvAt w q s O) (hk : KI (h, p)) (hl : OvSmall O) (hok : OvOk O t) (ht : Steps w) (h0 : 0 ≤ t) (ht9 : t ≤ 900000000000000) :
    Calls Tryz.prog 8 #[.pointer (some ⟨q, 0, none⟩), .agg #[.int .i64 h, .int .i64 p]] w fun x w' => ∃ O' e err, x = .returned (.tuple #[evalE e, .int .i64 err]) ∧ PutRel O (h, p) O' e err ∧ OvAt w' q s O' ∧ OvStep s w w' := by
  have HK : Hid (KI (h, p)) := hk
  have HO : Hid (OvAt w q s O) := hO
  have HLEN : Hid (O.base.length ≤ 490 ∧ O.was.length ≤ 490 ∧ O.fresh.length ≤ 490) := hl
  have HT : Hid (Steps w) := ht
  have HRI : Hid (∀ W, Calls Tryz.prog 32 #[.agg #[.int .i64 h, .int .i64 p]] W fun e w' => e = .returned (.bool (isR (h, p))) ∧ Below W.heap.size W w') := right_any h p
  rcases hr : isR (h, p) with _ | _
  · have HPR : Hid (PutRel O (h, p) O (0, 0, 0) 2) := .inl ⟨hr, rfl, rfl, rfl⟩
    rw [hr] at HRI
    clear hr hO hk hl hok ht h0 ht9
    go_enter Tryz.func8, Tryz.ntmps8
    go_wp2_with fail
    obtain ⟨Va, hW⟩ : ∃ W, W = (w.alloc (.cells #[.int .i64 h, .int .i64 p] 32)).alloc (.cells #[.int .i64 0, .int .i64 0, .int .u32 0] 37) := ⟨_, rfl⟩
    have hs : (w.alloc (.cells #[.int .i64 h, .int .i64 p] 32)).heap.size = w.heap.size + 1 := by simp
    have HB0 : Hid (Below w.heap.size w Va) := by rw [hW]; exact ((Below.refl _ _).alloc (Nat.le_refl _) _).alloc (by simp) _
    have HGA : Hid (Va.heap[w.heap.size]? = some (.cells #[.int .i64 h, .int .i64 p] 32 (0, 0))) := by
      rw [hW]
      exact (((Below.refl _ _).alloc (Nat.le_refl _) _ : Below _ (w.alloc (.cells #[.int .i64 h, .int .i64 p] 32)) _).block w.heap.size (by simp)).trans (heap_alloc_new w _)
    have HGE : Hid (Va.heap[w.heap.size + 1]? = some (.cells #[.int .i64 0, .int .i64 0, .int .u32 0] 37 (0, 0))) := by
      have := heap_alloc_new (w.alloc (.cells #[.int .i64 h, .int .i64 p] 32)) (.cells #[.int .i64 0, .int .i64 0, .int .u32 0] 37)
      rw [hs] at this
      rw [hW]; exact this
    have HOV : Hid (OvAt Va q s O) := HO.out.kept HB0.out
    rw [← hW]
    try rw [hs]
    obtain ⟨A, hA⟩ : ∃ A, A = w.heap.size := ⟨_, rfl⟩
    obtain ⟨E, hE⟩ : ∃ E, E = A + 1 := ⟨_, rfl⟩
    rw [← hA] at HGA HGE
    rw [← hE] at HGE
    try rw [← hA]
    try rw [← hE]
    have HA : Hid (A = w.heap.size) := hA
    have HE : Hid (E = A + 1) := hE
    clear hW hs hA hE
    refine (HRI.out Va).mono ?_
    rintro e V ⟨rfl, hbV⟩
    have HBV0 : Hid (Below w.heap.size w V) := HB0.out.trans (hbV.mono HB0.out.size)
    have HOVV : Hid (OvAt V q s O) := HOV.out.kept hbV
    have HGAV : Hid (V.heap[A]? = some (.cells #[.int .i64 h, .int .i64 p] 32 (0, 0))) := (hbV.block A (lt_of_heap HGA.out)).trans HGA.out
    have HGEV : Hid (V.heap[E]? = some (.cells #[.int .i64 0, .int .i64 0, .int .u32 0] 37 (0, 0))) := (hbV.block E (lt_of_heap HGE.out)).trans HGE.out
    have HEL : Hid (w.heap.size ≤ E) := by have := HA.out; have := HE.out; unfold Hid; omega
    have HSTV : Hid (OvStep s w V) := .ofBelow HBV0.out
    clear hbV HRI
    have HSTE : Hid (OvStep s w V) := HSTV.out
    have HZE := HGEV
    obtain ⟨⟨z0, z1, z2⟩, zf⟩ := cells3' HZE.out
    have f0 := zf 0
    have f1 := zf 1
    have f2 := zf 2
    clear zf
    have HOF : Hid (∀ x y z, OvAt (((V.setCell ⟨E, 0, none⟩ x).setCell ⟨E, 1, none⟩ y).setCell ⟨E, 2, none⟩ z) q s (O)) := fun x y z => HOVV.out.set3 HZE.out x y z
    have HSF : Hid (∀ x y z, OvStep s w (((V.setCell ⟨E, 0, none⟩ x).setCell ⟨E, 1, none⟩ y).setCell ⟨E, 2, none⟩ z)) := fun x y z => ((HSTE.out.setNew HEL.out x).setNew HEL.out y).setNew HEL.out z
    go_wp2
    first
      | refine bodyPost_ret (v := .tuple #[.agg #[.int .i64 _, .int .i64 _, .int .u32 _], .int .i64 _]) (results_cell2 rfl rfl rfl (load_ent (set_three _ _ _ z0 z1 z2).1 (set_three _ _ _ z0 z1 z2).2.1 (set_three _ _ _ z0 z1 z2).2.2)) rfl ⟨O, (0, 0, 0), 2, rfl, HPR.out, HOF.out _ _ _, HSF.out _ _ _⟩
      | refine bodyPost_ret (v := .tuple #[.agg #[.int .i64 _, .int .i64 _, .int .u32 _], .int .i64 _]) (results_cell2 rfl rfl rfl (load_ent (set_three _ _ _ z0 z1 z2).1 (set_three _ _ _ z0 z1 z2).2.1 (set_three _ _ _ z0 z1 z2).2.2)) rfl ⟨O, 0, 0, 0, 2, rfl, HPR.out, HOF.out _ _ _, HSF.out _ _ _⟩
  · rw [hr] at HRI
    rcases hf : findM O.fresh (h, p) with _ | ⟨s0, s1, s2⟩
    · have HGB : Hid (0 ≤ genO O (h, p) ∧ genO O (h, p) ≤ 900000000000000) := by have := genO_bd hok h0 (h, p); exact ⟨this.1, Int.le_trans this.2 ht9⟩
      have HP3 : Hid ((∀ i, i < O.n → O.B i = true) → PutRel O (h, p) O (0, 0, 0) 12) := fun hall => .inr (.inr (.inl ⟨hr, hf, hall, rfl, rfl, rfl⟩))
      have HP4 : Hid (∀ n : Nat, IsTake O.B O.n n → PutRel O (h, p) (addF (retireO O (h, p)) (h, p) n (genO O (h, p) + 1) 0) ((n : Int), genO O (h, p) + 1, 0) 0) := fun n hn => .inr (.inr (.inr ⟨hr, hf, n, hn, rfl, rfl, rfl⟩))
      have HLB : Hid (∀ W', MapL W' s.Z O.fresh → (Instr.lookup 68 (.map (some s.Z)) (.agg #[.int .i64 h, .int .i64 p]) true).run Tryz.prog W' = .ok (.tuple #[.agg #[.int .i64 0, .int .i64 0, .int .u32 0], .bool false]) W') := fun W' hm => by
        have h9 := hm.look (k := (h, p)) HK.out
        rw [hf] at h9
        exact h9
      clear hf hr hO hk hl hok ht h0 ht9
      go_enter Tryz.func8, Tryz.ntmps8
      go_wp2_with fail
      obtain ⟨Va, hW⟩ : ∃ W, W = (w.alloc (.cells #[.int .i64 h, .int .i64 p] 32)).alloc (.cells #[.int .i64 0, .int .i64 0, .int .u32 0] 37) := ⟨_, rfl⟩
      have hs : (w.alloc (.cells #[.int .i64 h, .int .i64 p] 32)).heap.size = w.heap.size + 1 := by simp
      have HB0 : Hid (Below w.heap.size w Va) := by rw [hW]; exact ((Below.refl _ _).alloc (Nat.le_refl _) _).alloc (by simp) _
      have HGA : Hid (Va.heap[w.heap.size]? = some (.cells #[.int .i64 h, .int .i64 p] 32 (0, 0))) := by
        rw [hW]
        exact (((Below.refl _ _).alloc (Nat.le_refl _) _ : Below _ (w.alloc (.cells #[.int .i64 h, .int .i64 p] 32)) _).block w.heap.size (by simp)).trans (heap_alloc_new w _)
      have HGE : Hid (Va.heap[w.heap.size + 1]? = some (.cells #[.int .i64 0, .int .i64 0, .int .u32 0] 37 (0, 0))) := by
        have := heap_alloc_new (w.alloc (.cells #[.int .i64 h, .int .i64 p] 32)) (.cells #[.int .i64 0, .int .i64 0, .int .u32 0] 37)
        rw [hs] at this
        rw [hW]; exact this
      have HOV : Hid (OvAt Va q s O) := HO.out.kept HB0.out
      rw [← hW]
      try rw [hs]
      obtain ⟨A, hA⟩ : ∃ A, A = w.heap.size := ⟨_, rfl⟩
      obtain ⟨E, hE⟩ : ∃ E, E = A + 1 := ⟨_, rfl⟩
      rw [← hA] at HGA HGE
      rw [← hE] at HGE
      try rw [← hA]
      try rw [← hE]
      have HA : Hid (A = w.heap.size) := hA
      have HE : Hid (E = A + 1) := hE
      clear hW hs hA hE
      refine (HRI.out Va).mono ?_
      rintro e V ⟨rfl, hbV⟩
      have HBV0 : Hid (Below w.heap.size w V) := HB0.out.trans (hbV.mono HB0.out.size)
      have HOVV : Hid (OvAt V q s O) := HOV.out.kept hbV
      have HGAV : Hid (V.heap[A]? = some (.cells #[.int .i64 h, .int .i64 p] 32 (0, 0))) := (hbV.block A (lt_of_heap HGA.out)).trans HGA.out
      have HGEV : Hid (V.heap[E]? = some (.cells #[.int .i64 0, .int .i64 0, .int .u32 0] 37 (0, 0))) := (hbV.block E (lt_of_heap HGE.out)).trans HGE.out
      have HEL : Hid (w.heap.size ≤ E) := by have := HA.out; have := HE.out; unfold Hid; omega
      have HSTV : Hid (OvStep s w V) := .ofBelow HBV0.out
      clear hbV HRI
      go_wp2_with fail
      have HS9 : Hid (∀ w', Below V.heap.size V w' → (w'.cell? ⟨A, 0, none⟩ = some (.int .i64 h) ∧ w'.cell? ⟨A, 1, none⟩ = some (.int .i64 p)) ∧ w'.cell? ⟨q, 3, none⟩ = some (.map (some s.Z)) ∧ (Instr.lookup 68 (.map (some s.Z)) (.agg #[.int .i64 h, .int .i64 p]) true).run Tryz.prog w' = .ok (.tuple #[.agg #[.int .i64 0, .int .i64 0, .int .u32 0], .bool false]) w') := fun w' hb => ⟨cells2' ((hb.block A (lt_of_heap HGAV.out)).trans HGAV.out), (HOVV.out.kept hb).cells.2.2.2, HLB.out w' (HOVV.out.fresh.kept hb)⟩
      go_region_held3 (fun w' => (w'.cell? ⟨A, 0, none⟩ = some (.int .i64 h) ∧ w'.cell? ⟨A, 1, none⟩ = some (.int .i64 p)) ∧ w'.cell? ⟨q, 3, none⟩ = some (.map (some s.Z)) ∧ (Instr.lookup 68 (.map (some s.Z)) (.agg #[.int .i64 h, .int .i64 p]) true).run Tryz.prog w' = .ok (.tuple #[.agg #[.int .i64 0, .int .i64 0, .int .u32 0], .bool false]) w') (first | exact HS9.out _ (Below.refl _ _).drew | exact HS9.out _ ((Below.refl _ _).drew.alloc (Nat.le_refl _) _)) (fail)
      all_goals
        have HZV1 : Hid ((V.alloc (.cells #[.int .i64 0, .int .i64 0, .int .u32 0] 37)).drew.heap[V.heap.size]? = some (.cells #[.int .i64 0, .int .i64 0, .int .u32 0] 37 (0, 0))) := heap_alloc_new V _
        have HBV1 : Hid (Below V.heap.size V (V.alloc (.cells #[.int .i64 0, .int .i64 0, .int .u32 0] 37)).drew) := ((Below.refl _ _).alloc (Nat.le_refl _) _).drew
        generalize (V.alloc (.cells #[.int .i64 0, .int .i64 0, .int .u32 0] 37)).drew = V1 at *
        obtain ⟨Zb, hZb⟩ : ∃ Zb, Zb = V.heap.size := ⟨_, rfl⟩
        have HGV1 : Hid (Zb = V.heap.size) := hZb
        rw [← hZb] at HZV1
        try rw [← hZb]
        clear hZb HS9
        have HOV1 : Hid (OvAt V1 q s O) := HOVV.out.kept HBV1.out
        have HGA1 : Hid (V1.heap[A]? = some (.cells #[.int .i64 h, .int .i64 p] 32 (0, 0))) := (HBV1.out.block A (lt_of_heap HGAV.out)).trans HGAV.out
        have HGE1 : Hid (V1.heap[E]? = some (.cells #[.int .i64 0, .int .i64 0, .int .u32 0] 37 (0, 0))) := (HBV1.out.block E (lt_of_heap HGEV.out)).trans HGEV.out
        have HST1 : Hid (OvStep s w V1) := HSTV.out.below HBV1.out
        have HT1 : Hid (Steps V1) := HT.out.ov HO.out HST1.out
        have HTK := take_any V1 s.h s.p s.b s.f s.cap O.n O.B HOV1.out.board HT1.out
        obtain ⟨d0, -, -, -⟩ := HOV1.out.cells
        go_wp2_with fail
        refine HTK.mono ?_
        rintro x V2 (⟨k, rfl, hik, hbo, hon⟩ | ⟨rfl, hall, rfl⟩)
        · have HIK : Hid (IsTake O.B O.n k) := hik
          have HPR0 : Hid (PutRel O (h, p) (addF (retireO O (h, p)) (h, p) k (genO O (h, p) + 1) 0) ((k : Int), genO O (h, p) + 1, 0) 0) := HP4.out k hik
          have HEQ : Hid (addF (retireO O (h, p)) (h, p) k (genO O (h, p) + 1) 0 = { retireO O (h, p) with B := putB O.B k 1 true, fresh := putL O.fresh (h, p) ((k : Int), genO O (h, p) + 1, 0) }) := by unfold Hid addF; rw [(retire_n O (h, p)).2, retire_fresh]
          have HPR : Hid (PutRel O (h, p) { retireO O (h, p) with B := putB O.B k 1 true, fresh := putL O.fresh (h, p) ((k : Int), genO O (h, p) + 1, 0) } ((k : Int), genO O (h, p) + 1, 0) 0) := by rw [← HEQ.out]; exact HPR0.out
          have HOV2 : Hid (OvAt V2 q s { O with B := putB O.B k 1 true }) := HOV1.out.boardTo hon hbo
          have HGA2 : Hid (V2.heap[A]? = some (.cells #[.int .i64 h, .int .i64 p] 32 (0, 0))) := (hon.heap (lt_of_heap HGA1.out) (ne_type HGA1.out HOV1.out.board.row.body (by decide)) (free_ne HGA1.out HOV1.out.board (by decide))).trans HGA1.out
          have HGE2 : Hid (V2.heap[E]? = some (.cells #[.int .i64 0, .int .i64 0, .int .u32 0] 37 (0, 0))) := (hon.heap (lt_of_heap HGE1.out) (ne_type HGE1.out HOV1.out.board.row.body (by decide)) (free_ne HGE1.out HOV1.out.board (by decide))).trans HGE1.out
          have HZ2 : Hid (V2.heap[Zb]? = some (.cells #[.int .i64 0, .int .i64 0, .int .u32 0] 37 (0, 0))) := (hon.heap (lt_of_heap HZV1.out) (ne_type HZV1.out HOV1.out.board.row.body (by decide)) (free_ne HZV1.out HOV1.out.board (by decide))).trans HZV1.out
          have HST2 : Hid (OvStep s w V2) := HST1.out.trans (.ofOnly2 hon)
          obtain ⟨k0, k1⟩ := cells2' HGA2.out
          have HRE := retire12_any V2 q s { O with B := putB O.B k 1 true } h p HOV2.out HK.out HLEN.out
          clear d0 HTK hik hbo hon HP3 HP4 HPR0 HEQ
          go_wp2_with fail
          refine HRE.mono ?_
          rintro x V3 ⟨rfl, ho3, hs3⟩
          rw [retire_B12, show ({ retireO O (h, p) with B := putB O.B k 1 true } : Ov) = { retireO O (h, p) with B := putB O.B k 1 true, fresh := O.fresh } from by rw [← retire_fresh O (h, p)]] at ho3
          have HOV3 : Hid (OvAt V3 q s { retireO O (h, p) with B := putB O.B k 1 true, fresh := O.fresh }) := ho3
          have HST3 : Hid (OvStep s w V3) := HST2.out.trans hs3
          have HKP : Hid (∀ (i : Nat) (C : Array Value) (T : TypeId) (g : Nat × Nat), V2.heap[i]? = some (.cells C T g) → T ≠ 3 → T ≠ 122 → V3.heap[i]? = V2.heap[i]?) := fun i C T g hi h1 h2 => hs3.heap (lt_of_heap hi) ⟨ne_type hi HOV2.out.board.row.body h2, free_ne hi HOV2.out.board h1, ne_map hi HOV2.out.base, ne_map hi HOV2.out.was, ne_map hi HOV2.out.fresh⟩
          have HGA3 : Hid (V3.heap[A]? = some (.cells #[.int .i64 h, .int .i64 p] 32 (0, 0))) := (HKP.out A _ _ _ HGA2.out (by decide) (by decide)).trans HGA2.out
          have HGE3 : Hid (V3.heap[E]? = some (.cells #[.int .i64 0, .int .i64 0, .int .u32 0] 37 (0, 0))) := (HKP.out E _ _ _ HGE2.out (by decide) (by decide)).trans HGE2.out
          have HZ3 : Hid (V3.heap[Zb]? = some (.cells #[.int .i64 0, .int .i64 0, .int .u32 0] 37 (0, 0))) := (HKP.out Zb _ _ _ HZ2.out (by decide) (by decide)).trans HZ2.out
          clear ho3 hs3 HRE k0 k1 HKP
          obtain ⟨w0, w1, w2, hwv⟩ : ∃ w0 w1 w2, entV (findM (retireO O (h, p)).was (h, p)) = .agg #[.int .i64 w0, .int .i64 w1, .int .u32 (w2 : Nat)] ∧ w1 = genO O (h, p) := ⟨_, _, _, rfl, rfl⟩
          obtain ⟨hwv, hw1⟩ := hwv
          rw [← hw1] at HPR HGB
          have hwb := HGB.out
          have HLW : Hid (∀ W', MapL W' s.Y (retireO O (h, p)).was → (Instr.lookup 68 (.map (some s.Y)) (.agg #[.int .i64 h, .int .i64 p]) false).run Tryz.prog W' = .ok (.agg #[.int .i64 w0, .int .i64 w1, .int .u32 (w2 : Nat)]) W') := fun W' hm => by
            have h9 := hm.look1 (k := (h, p)) HK.out
            rw [hwv] at h9
            exact h9
          clear hwv hw1
          go_wp2_with fail
          obtain ⟨⟨y0, y1, y2⟩, yf⟩ := cells3' HZ3.out
          have hfld := field_gen w0 w1 w2
          have g0 := yf 0
          have g1' := yf 1
          have g2 := yf 2
          clear yf
          have HSS : Hid (∀ w', OvAt w' q s { retireO O (h, p) with B := putB O.B k 1 true, fresh := O.fresh } → w'.heap[A]? = some (.cells #[.int .i64 h, .int .i64 p] 32 (0, 0)) → (w'.cell? ⟨A, 0, none⟩ = some (.int .i64 h) ∧ w'.cell? ⟨A, 1, none⟩ = some (.int .i64 p)) ∧ w'.cell? ⟨q, 2, none⟩ = some (.map (some s.Y)) ∧ (Instr.lookup 68 (.map (some s.Y)) (.agg #[.int .i64 h, .int .i64 p]) false).run Tryz.prog w' = .ok (.agg #[.int .i64 w0, .int .i64 w1, .int .u32 (w2 : Nat)]) w') := fun w' ho ha => ⟨cells2' ha, ho.cells.2.2.1, HLW.out w' ho.was⟩
          have HO4 : Hid (OvAt ((((V3.setCell ⟨Zb, 0, none⟩ (.int .i64 (k : Nat))).setCell ⟨Zb, 1, none⟩ (.int .i64 w1)).setCell ⟨Zb, 2, none⟩ (.int .u32 0)).drew) q s { retireO O (h, p) with B := putB O.B k 1 true, fresh := O.fresh }) := (HOV3.out.set3 (E := Zb) HZ3.out _ _ _).drew
          have HNA : Hid (A ≠ Zb ∧ E ≠ Zb) := ⟨ne_type HGA3.out HZ3.out (by decide), fun e => by have := HGV1.out; have := lt_of_heap HGEV.out; omega⟩
          have HS4 : Hid (∀ i, i ≠ Zb → ((((V3.setCell ⟨Zb, 0, none⟩ (.int .i64 (k : Nat))).setCell ⟨Zb, 1, none⟩ (.int .i64 w1)).setCell ⟨Zb, 2, none⟩ (.int .u32 0)).drew).heap[i]? = V3.heap[i]?) := fun i hi => (Below.heap_setCell _ ⟨Zb, 2, none⟩ _ i hi).trans ((Below.heap_setCell _ ⟨Zb, 1, none⟩ _ i hi).trans (Below.heap_setCell _ ⟨Zb, 0, none⟩ _ i hi))
          have HGA4 : Hid (((((V3.setCell ⟨Zb, 0, none⟩ (.int .i64 (k : Nat))).setCell ⟨Zb, 1, none⟩ (.int .i64 w1)).setCell ⟨Zb, 2, none⟩ (.int .u32 0)).drew).heap[A]? = some (.cells #[.int .i64 h, .int .i64 p] 32 (0, 0))) := (HS4.out A HNA.out.1).trans HGA3.out
          have HGE4 : Hid (((((V3.setCell ⟨Zb, 0, none⟩ (.int .i64 (k : Nat))).setCell ⟨Zb, 1, none⟩ (.int .i64 w1)).setCell ⟨Zb, 2, none⟩ (.int .u32 0)).drew).heap[E]? = some (.cells #[.int .i64 0, .int .i64 0, .int .u32 0] 37 (0, 0))) := (HS4.out E HNA.out.2).trans HGE3.out
          have HZ4 : Hid (((((V3.setCell ⟨Zb, 0, none⟩ (.int .i64 (k : Nat))).setCell ⟨Zb, 1, none⟩ (.int .i64 w1)).setCell ⟨Zb, 2, none⟩ (.int .u32 0)).drew).heap[Zb]? = some (.cells #[.int .i64 (k : Nat), .int .i64 w1, .int .u32 0] 37 (0, 0))) := (heap_set_row (heap_set_row (heap_set_row HZ3.out 0 _) 1 _) 2 _).trans rfl
          have HZL : Hid (w.heap.size ≤ Zb) := by have := HGV1.out; have := HBV0.out.size; unfold Hid; omega
          have HST4 : Hid (OvStep s w ((((V3.setCell ⟨Zb, 0, none⟩ (.int .i64 (k : Nat))).setCell ⟨Zb, 1, none⟩ (.int .i64 w1)).setCell ⟨Zb, 2, none⟩ (.int .u32 0)).drew)) := (((HST3.out.setNew (p := ⟨Zb, 0, none⟩) HZL.out _).setNew (p := ⟨Zb, 1, none⟩) HZL.out _).setNew (p := ⟨Zb, 2, none⟩) HZL.out _).drew
          go_region_held3 (fun w' => (w'.cell? ⟨A, 0, none⟩ = some (.int .i64 h) ∧ w'.cell? ⟨A, 1, none⟩ = some (.int .i64 p)) ∧ w'.cell? ⟨q, 2, none⟩ = some (.map (some s.Y)) ∧ (Instr.lookup 68 (.map (some s.Y)) (.agg #[.int .i64 h, .int .i64 p]) false).run Tryz.prog w' = .ok (.agg #[.int .i64 w0, .int .i64 w1, .int .u32 (w2 : Nat)]) w') (first | exact HSS.out _ HOV3.out.drew HGA3.out | exact HSS.out _ HO4.out HGA4.out) (fail)
          all_goals
            clear hfld HSS y0 y1 y2 g0 g1' g2 HS4 HLW HZ3 HGA3 HGE3 HOV3
            generalize (((V3.setCell ⟨Zb, 0, none⟩ (.int .i64 (k : Nat))).setCell ⟨Zb, 1, none⟩ (.int .i64 w1)).setCell ⟨Zb, 2, none⟩ (.int .u32 0)).drew = V4 at *
            obtain ⟨⟨y0, y1, y2⟩, -⟩ := cells3' HZ4.out
            go_wp2_with fail
            have HBW : Hid (Below V4.heap.size V4 (V4.alloc (.cells #[.int .i64 (k : Nat), .int .i64 (w1 + 1), .int .u32 0] 37))) := (Below.refl _ _).alloc (Nat.le_refl _) _
            have HZT : Hid ((V4.alloc (.cells #[.int .i64 (k : Nat), .int .i64 (w1 + 1), .int .u32 0] 37)).heap[V4.heap.size]? = some (.cells #[.int .i64 (k : Nat), .int .i64 (w1 + 1), .int .u32 0] 37 (0, 0))) := heap_alloc_new V4 _
            clear y0 y1 y2
            generalize (V4.alloc (.cells #[.int .i64 (k : Nat), .int .i64 (w1 + 1), .int .u32 0] 37)) = V5 at *
            obtain ⟨Zt, hZt⟩ : ∃ Zt, Zt = V4.heap.size := ⟨_, rfl⟩
            have HGT : Hid (Zt = V4.heap.size) := hZt
            rw [← hZt] at HZT
            try rw [← hZt]
            clear hZt
            obtain ⟨g1, hg1⟩ : ∃ g1, g1 = w1 + 1 := ⟨_, rfl⟩
            rw [← hg1] at HZT HPR
            try rw [← hg1]
            clear hg1
            have HOV5 : Hid (OvAt V5 q s ({ retireO O (h, p) with B := putB O.B k 1 true, fresh := O.fresh } : Ov)) := HO4.out.kept HBW.out
            have HGAV5 : Hid (V5.heap[A]? = some (.cells #[.int .i64 h, .int .i64 p] 32 (0, 0))) := (HBW.out.block A (lt_of_heap HGA4.out)).trans HGA4.out
            have HGEV5 : Hid (V5.heap[E]? = some (.cells #[.int .i64 0, .int .i64 0, .int .u32 0] 37 (0, 0))) := (HBW.out.block E (lt_of_heap HGE4.out)).trans HGE4.out
            have HSTV5 : Hid (OvStep s w V5) := HST4.out.below HBW.out
            obtain ⟨V6, hup, hm, hg⟩ := (HOV5.out.fresh.drew).put (by show O.fresh.length < 100000; have := HLEN.out; omega) HK.out ((k : Int), g1, 0)
            have HUP : (Instr.mapUpdate 68 (.map (some s.Z)) (.agg #[.int .i64 h, .int .i64 p]) (.agg #[.int .i64 (k : Nat), .int .i64 g1, .int .u32 0])).run Tryz.prog V5.drew = .ok () V6 := hup
            have HMV6 : Hid (MapL V6 s.Z (putL ({ retireO O (h, p) with B := putB O.B k 1 true, fresh := O.fresh } : Ov).fresh (h, p) ((k : Int), g1, 0))) := hm
            have HGV6 : Hid (V5.drew.grownBy V6 (some s.Z)) := hg
            clear hup hm hg
            have HS7 : Hid (∀ w', Below V5.heap.size V5 w' → ((w'.cell? ⟨A, 0, none⟩ = some (.int .i64 h) ∧ w'.cell? ⟨A, 1, none⟩ = some (.int .i64 p)) ∧ w'.cell? ⟨q, 3, none⟩ = some (.map (some s.Z))) ∧ w'.cell? ⟨Zt, 0, none⟩ = some (.int .i64 (k : Nat)) ∧ w'.cell? ⟨Zt, 1, none⟩ = some (.int .i64 g1) ∧ w'.cell? ⟨Zt, 2, none⟩ = some (.int .u32 0)) := fun w' hb => ⟨⟨cells2' ((hb.block A (lt_of_heap HGAV5.out)).trans HGAV5.out), (HOV5.out.kept hb).cells.2.2.2⟩, (cells3' ((hb.block Zt (lt_of_heap HZT.out)).trans HZT.out)).1⟩
            have HOV6 : Hid (OvAt V6 q s ({ retireO O (h, p) with B := putB O.B k 1 true, fresh := putL O.fresh (h, p) ((k : Int), g1, 0) })) := HOV5.out.drew.freshTo HGV6.out HMV6.out
            have HGAV6 : Hid (V6.heap[A]? = some (.cells #[.int .i64 h, .int .i64 p] 32 (0, 0))) := (grown_block HGV6.out (lt_of_heap HGAV5.out) (ne_map (w := V5) HGAV5.out HOV5.out.fresh)).trans HGAV5.out
            have HZV6 : Hid (V6.heap[Zt]? = some (.cells #[.int .i64 (k : Nat), .int .i64 g1, .int .u32 0] 37 (0, 0))) := (grown_block HGV6.out (lt_of_heap HZT.out) (ne_map (w := V5) HZT.out HOV5.out.fresh)).trans HZT.out
            go_region_held3 (fun w' => ((w'.cell? ⟨A, 0, none⟩ = some (.int .i64 h) ∧ w'.cell? ⟨A, 1, none⟩ = some (.int .i64 p)) ∧ w'.cell? ⟨q, 3, none⟩ = some (.map (some s.Z))) ∧ w'.cell? ⟨Zt, 0, none⟩ = some (.int .i64 (k : Nat)) ∧ w'.cell? ⟨Zt, 1, none⟩ = some (.int .i64 g1) ∧ w'.cell? ⟨Zt, 2, none⟩ = some (.int .u32 0)) (first | exact HS7.out _ (Below.refl _ _).drew | exact HS7.out _ (Below.refl _ _) | exact ⟨⟨cells2' HGAV6.out, HOV6.out.cells.2.2.2⟩, (cells3' HZV6.out).1⟩) (fail)
            all_goals
              clear HS7 HUP
              have HSTE : Hid (OvStep s w V6) := HSTV5.out.drew.grown HGV6.out (.inr (.inr rfl))
              have HZE : Hid (V6.heap[E]? = some (.cells #[.int .i64 0, .int .i64 0, .int .u32 0] 37 (0, 0))) := (grown_block HGV6.out (lt_of_heap HGEV5.out) (ne_map (w := V5) HGEV5.out HOV5.out.fresh)).trans HGEV5.out
              obtain ⟨⟨z0, z1, z2⟩, zf⟩ := cells3' HZE.out
              obtain ⟨⟨e0, e1, e2⟩, -⟩ := cells3' HZV6.out
              have f0 := zf 0
              have f1 := zf 1
              have f2 := zf 2
              clear zf
              have HOF : Hid (∀ x y z, OvAt (((V6.setCell ⟨E, 0, none⟩ x).setCell ⟨E, 1, none⟩ y).setCell ⟨E, 2, none⟩ z) q s ({ retireO O (h, p) with B := putB O.B k 1 true, fresh := putL O.fresh (h, p) ((k : Int), g1, 0) })) := fun x y z => HOV6.out.set3 HZE.out x y z
              have HSF : Hid (∀ x y z, OvStep s w (((V6.setCell ⟨E, 0, none⟩ x).setCell ⟨E, 1, none⟩ y).setCell ⟨E, 2, none⟩ z)) := fun x y z => ((HSTE.out.setNew HEL.out x).setNew HEL.out y).setNew HEL.out z
              go_wp2
              first
                | refine bodyPost_ret (v := .tuple #[.agg #[.int .i64 _, .int .i64 _, .int .u32 _], .int .i64 _]) (results_cell2 rfl rfl rfl (load_ent (set_three _ _ _ z0 z1 z2).1 (set_three _ _ _ z0 z1 z2).2.1 (set_three _ _ _ z0 z1 z2).2.2)) rfl ⟨{ retireO O (h, p) with B := putB O.B k 1 true, fresh := putL O.fresh (h, p) ((k : Int), g1, 0) }, ((k : Int), g1, 0), 0, rfl, HPR.out, HOF.out _ _ _, HSF.out _ _ _⟩
                | refine bodyPost_ret (v := .tuple #[.agg #[.int .i64 _, .int .i64 _, .int .u32 _], .int .i64 _]) (results_cell2 rfl rfl rfl (load_ent (set_three _ _ _ z0 z1 z2).1 (set_three _ _ _ z0 z1 z2).2.1 (set_three _ _ _ z0 z1 z2).2.2)) rfl ⟨{ retireO O (h, p) with B := putB O.B k 1 true, fresh := putL O.fresh (h, p) ((k : Int), g1, 0) }, (k : Int), g1, 0, 0, rfl, HPR.out, HOF.out _ _ _, HSF.out _ _ _⟩
        · have HPR := HP3.out hall
          have HPR : Hid (PutRel O (h, p) O (0, 0, 0) 12) := HPR
          have HSTE := HST1
          have HZE := HGE1
          clear d0 HTK hall HP3 HP4
          obtain ⟨⟨z0, z1, z2⟩, zf⟩ := cells3' HZE.out
          have f0 := zf 0
          have f1 := zf 1
          have f2 := zf 2
          clear zf
          have HOF : Hid (∀ x y z, OvAt (((V2.setCell ⟨E, 0, none⟩ x).setCell ⟨E, 1, none⟩ y).setCell ⟨E, 2, none⟩ z) q s (O)) := fun x y z => HOV1.out.set3 HZE.out x y z
          have HSF : Hid (∀ x y z, OvStep s w (((V2.setCell ⟨E, 0, none⟩ x).setCell ⟨E, 1, none⟩ y).setCell ⟨E, 2, none⟩ z)) := fun x y z => ((HSTE.out.setNew HEL.out x).setNew HEL.out y).setNew HEL.out z
          go_wp2
          first
            | refine bodyPost_ret (v := .tuple #[.agg #[.int .i64 _, .int .i64 _, .int .u32 _], .int .i64 _]) (results_cell2 rfl rfl rfl (load_ent (set_three _ _ _ z0 z1 z2).1 (set_three _ _ _ z0 z1 z2).2.1 (set_three _ _ _ z0 z1 z2).2.2)) rfl ⟨O, (0, 0, 0), 12, rfl, HPR.out, HOF.out _ _ _, HSF.out _ _ _⟩
            | refine bodyPost_ret (v := .tuple #[.agg #[.int .i64 _, .int .i64 _, .int .u32 _], .int .i64 _]) (results_cell2 rfl rfl rfl (load_ent (set_three _ _ _ z0 z1 z2).1 (set_three _ _ _ z0 z1 z2).2.1 (set_three _ _ _ z0 z1 z2).2.2)) rfl ⟨O, 0, 0, 0, 12, rfl, HPR.out, HOF.out _ _ _, HSF.out _ _ _⟩
    · have HPR : Hid (PutRel O (h, p) { O with fresh := putL O.fresh (h, p) (s0, s1 + 1, 0) } (s0, s1 + 1, 0) 0) := .inr (.inl ⟨hr, _, hf, rfl, rfl, rfl⟩)
      have hb1 : 1 ≤ s1 ∧ s1 ≤ 900000000000000 := by have := hok.fit 2 (h, p) (s0, s1, s2) ⟨by decide, hf⟩; exact ⟨this.2.1, Int.le_trans this.2.2.1 ht9⟩
      have HLB : Hid (∀ W', MapL W' s.Z O.fresh → (Instr.lookup 68 (.map (some s.Z)) (.agg #[.int .i64 h, .int .i64 p]) true).run Tryz.prog W' = .ok (.tuple #[.agg #[.int .i64 s0, .int .i64 s1, .int .u32 (s2 : Nat)], .bool true]) W') := fun W' hm => by
        have h9 := hm.look (k := (h, p)) HK.out
        rw [hf] at h9
        exact h9
      clear hf hr hO hk hl hok ht h0 ht9
      go_enter Tryz.func8, Tryz.ntmps8
      go_wp2_with fail
      obtain ⟨Va, hW⟩ : ∃ W, W = (w.alloc (.cells #[.int .i64 h, .int .i64 p] 32)).alloc (.cells #[.int .i64 0, .int .i64 0, .int .u32 0] 37) := ⟨_, rfl⟩
      have hs : (w.alloc (.cells #[.int .i64 h, .int .i64 p] 32)).heap.size = w.heap.size + 1 := by simp
      have HB0 : Hid (Below w.heap.size w Va) := by rw [hW]; exact ((Below.refl _ _).alloc (Nat.le_refl _) _).alloc (by simp) _
      have HGA : Hid (Va.heap[w.heap.size]? = some (.cells #[.int .i64 h, .int .i64 p] 32 (0, 0))) := by
        rw [hW]
        exact (((Below.refl _ _).alloc (Nat.le_refl _) _ : Below _ (w.alloc (.cells #[.int .i64 h, .int .i64 p] 32)) _).block w.heap.size (by simp)).trans (heap_alloc_new w _)
      have HGE : Hid (Va.heap[w.heap.size + 1]? = some (.cells #[.int .i64 0, .int .i64 0, .int .u32 0] 37 (0, 0))) := by
        have := heap_alloc_new (w.alloc (.cells #[.int .i64 h, .int .i64 p] 32)) (.cells #[.int .i64 0, .int .i64 0, .int .u32 0] 37)
        rw [hs] at this
        rw [hW]; exact this
      have HOV : Hid (OvAt Va q s O) := HO.out.kept HB0.out
      rw [← hW]
      try rw [hs]
      obtain ⟨A, hA⟩ : ∃ A, A = w.heap.size := ⟨_, rfl⟩
      obtain ⟨E, hE⟩ : ∃ E, E = A + 1 := ⟨_, rfl⟩
      rw [← hA] at HGA HGE
      rw [← hE] at HGE
      try rw [← hA]
      try rw [← hE]
      have HA : Hid (A = w.heap.size) := hA
      have HE : Hid (E = A + 1) := hE
      clear hW hs hA hE
      refine (HRI.out Va).mono ?_
      rintro e V ⟨rfl, hbV⟩
      have HBV0 : Hid (Below w.heap.size w V) := HB0.out.trans (hbV.mono HB0.out.size)
      have HOVV : Hid (OvAt V q s O) := HOV.out.kept hbV
      have HGAV : Hid (V.heap[A]? = some (.cells #[.int .i64 h, .int .i64 p] 32 (0, 0))) := (hbV.block A (lt_of_heap HGA.out)).trans HGA.out
      have HGEV : Hid (V.heap[E]? = some (.cells #[.int .i64 0, .int .i64 0, .int .u32 0] 37 (0, 0))) := (hbV.block E (lt_of_heap HGE.out)).trans HGE.out
      have HEL : Hid (w.heap.size ≤ E) := by have := HA.out; have := HE.out; unfold Hid; omega
      have HSTV : Hid (OvStep s w V) := .ofBelow HBV0.out
      clear hbV HRI
      go_wp2_with fail
      have HS9 : Hid (∀ w', Below V.heap.size V w' → (w'.cell? ⟨A, 0, none⟩ = some (.int .i64 h) ∧ w'.cell? ⟨A, 1, none⟩ = some (.int .i64 p)) ∧ w'.cell? ⟨q, 3, none⟩ = some (.map (some s.Z)) ∧ (Instr.lookup 68 (.map (some s.Z)) (.agg #[.int .i64 h, .int .i64 p]) true).run Tryz.prog w' = .ok (.tuple #[.agg #[.int .i64 s0, .int .i64 s1, .int .u32 (s2 : Nat)], .bool true]) w') := fun w' hb => ⟨cells2' ((hb.block A (lt_of_heap HGAV.out)).trans HGAV.out), (HOVV.out.kept hb).cells.2.2.2, HLB.out w' (HOVV.out.fresh.kept hb)⟩
      go_region_held3 (fun w' => (w'.cell? ⟨A, 0, none⟩ = some (.int .i64 h) ∧ w'.cell? ⟨A, 1, none⟩ = some (.int .i64 p)) ∧ w'.cell? ⟨q, 3, none⟩ = some (.map (some s.Z)) ∧ (Instr.lookup 68 (.map (some s.Z)) (.agg #[.int .i64 h, .int .i64 p]) true).run Tryz.prog w' = .ok (.tuple #[.agg #[.int .i64 s0, .int .i64 s1, .int .u32 (s2 : Nat)], .bool true]) w') (first | exact HS9.out _ (Below.refl _ _).drew | exact HS9.out _ ((Below.refl _ _).drew.alloc (Nat.le_refl _) _)) (fail)
      all_goals
        have HZV1 : Hid ((V.alloc (.cells #[.int .i64 s0, .int .i64 s1, .int .u32 (s2 : Nat)] 37)).drew.heap[V.heap.size]? = some (.cells #[.int .i64 s0, .int .i64 s1, .int .u32 (s2 : Nat)] 37 (0, 0))) := heap_alloc_new V _
        have HBV1 : Hid (Below V.heap.size V (V.alloc (.cells #[.int .i64 s0, .int .i64 s1, .int .u32 (s2 : Nat)] 37)).drew) := ((Below.refl _ _).alloc (Nat.le_refl _) _).drew
        generalize (V.alloc (.cells #[.int .i64 s0, .int .i64 s1, .int .u32 (s2 : Nat)] 37)).drew = V1 at *
        obtain ⟨Zb, hZb⟩ : ∃ Zb, Zb = V.heap.size := ⟨_, rfl⟩
        have HGV1 : Hid (Zb = V.heap.size) := hZb
        rw [← hZb] at HZV1
        try rw [← hZb]
        clear hZb HS9
        have HOV1 : Hid (OvAt V1 q s O) := HOVV.out.kept HBV1.out
        have HGA1 : Hid (V1.heap[A]? = some (.cells #[.int .i64 h, .int .i64 p] 32 (0, 0))) := (HBV1.out.block A (lt_of_heap HGAV.out)).trans HGAV.out
        have HGE1 : Hid (V1.heap[E]? = some (.cells #[.int .i64 0, .int .i64 0, .int .u32 0] 37 (0, 0))) := (HBV1.out.block E (lt_of_heap HGEV.out)).trans HGEV.out
        have HST1 : Hid (OvStep s w V1) := HSTV.out.below HBV1.out
        obtain ⟨⟨y0, y1, y2⟩, -⟩ := cells3' HZV1.out
        go_wp2_with fail
        have HBW : Hid (Below V1.heap.size V1 (V1.alloc (.cells #[.int .i64 s0, .int .i64 (s1 + 1), .int .u32 0] 37))) := (Below.refl _ _).alloc (Nat.le_refl _) _
        have HZT : Hid ((V1.alloc (.cells #[.int .i64 s0, .int .i64 (s1 + 1), .int .u32 0] 37)).heap[V1.heap.size]? = some (.cells #[.int .i64 s0, .int .i64 (s1 + 1), .int .u32 0] 37 (0, 0))) := heap_alloc_new V1 _
        clear y0 y1 y2
        generalize (V1.alloc (.cells #[.int .i64 s0, .int .i64 (s1 + 1), .int .u32 0] 37)) = V1b at *
        obtain ⟨Zt, hZt⟩ : ∃ Zt, Zt = V1.heap.size := ⟨_, rfl⟩
        have HGT : Hid (Zt = V1.heap.size) := hZt
        rw [← hZt] at HZT
        try rw [← hZt]
        clear hZt
        obtain ⟨g1, hg1⟩ : ∃ g1, g1 = s1 + 1 := ⟨_, rfl⟩
        rw [← hg1] at HZT HPR
        try rw [← hg1]
        clear hg1
        have HOV1b : Hid (OvAt V1b q s (O)) := HOV1.out.kept HBW.out
        have HGAV1b : Hid (V1b.heap[A]? = some (.cells #[.int .i64 h, .int .i64 p] 32 (0, 0))) := (HBW.out.block A (lt_of_heap HGA1.out)).trans HGA1.out
        have HGEV1b : Hid (V1b.heap[E]? = some (.cells #[.int .i64 0, .int .i64 0, .int .u32 0] 37 (0, 0))) := (HBW.out.block E (lt_of_heap HGE1.out)).trans HGE1.out
        have HSTV1b : Hid (OvStep s w V1b) := HST1.out.below HBW.out
        obtain ⟨V2, hup, hm, hg⟩ := (HOV1b.out.fresh.drew).put (by show O.fresh.length < 100000; have := HLEN.out; omega) HK.out (s0, g1, 0)
        have HUP : (Instr.mapUpdate 68 (.map (some s.Z)) (.agg #[.int .i64 h, .int .i64 p]) (.agg #[.int .i64 s0, .int .i64 g1, .int .u32 0])).run Tryz.prog V1b.drew = .ok () V2 := hup
        have HMV2 : Hid (MapL V2 s.Z (putL (O).fresh (h, p) (s0, g1, 0))) := hm
        have HGV2 : Hid (V1b.drew.grownBy V2 (some s.Z)) := hg
        clear hup hm hg
        have HS7 : Hid (∀ w', Below V1b.heap.size V1b w' → ((w'.cell? ⟨A, 0, none⟩ = some (.int .i64 h) ∧ w'.cell? ⟨A, 1, none⟩ = some (.int .i64 p)) ∧ w'.cell? ⟨q, 3, none⟩ = some (.map (some s.Z))) ∧ w'.cell? ⟨Zt, 0, none⟩ = some (.int .i64 s0) ∧ w'.cell? ⟨Zt, 1, none⟩ = some (.int .i64 g1) ∧ w'.cell? ⟨Zt, 2, none⟩ = some (.int .u32 0)) := fun w' hb => ⟨⟨cells2' ((hb.block A (lt_of_heap HGAV1b.out)).trans HGAV1b.out), (HOV1b.out.kept hb).cells.2.2.2⟩, (cells3' ((hb.block Zt (lt_of_heap HZT.out)).trans HZT.out)).1⟩
        have HOV2 : Hid (OvAt V2 q s ({ O with fresh := putL O.fresh (h, p) (s0, g1, 0) })) := HOV1b.out.drew.freshTo HGV2.out HMV2.out
        have HGAV2 : Hid (V2.heap[A]? = some (.cells #[.int .i64 h, .int .i64 p] 32 (0, 0))) := (grown_block HGV2.out (lt_of_heap HGAV1b.out) (ne_map (w := V1b) HGAV1b.out HOV1b.out.fresh)).trans HGAV1b.out
        have HZV2 : Hid (V2.heap[Zt]? = some (.cells #[.int .i64 s0, .int .i64 g1, .int .u32 0] 37 (0, 0))) := (grown_block HGV2.out (lt_of_heap HZT.out) (ne_map (w := V1b) HZT.out HOV1b.out.fresh)).trans HZT.out
        go_region_held3 (fun w' => ((w'.cell? ⟨A, 0, none⟩ = some (.int .i64 h) ∧ w'.cell? ⟨A, 1, none⟩ = some (.int .i64 p)) ∧ w'.cell? ⟨q, 3, none⟩ = some (.map (some s.Z))) ∧ w'.cell? ⟨Zt, 0, none⟩ = some (.int .i64 s0) ∧ w'.cell? ⟨Zt, 1, none⟩ = some (.int .i64 g1) ∧ w'.cell? ⟨Zt, 2, none⟩ = some (.int .u32 0)) (first | exact HS7.out _ (Below.refl _ _).drew | exact HS7.out _ (Below.refl _ _) | exact ⟨⟨cells2' HGAV2.out, HOV2.out.cells.2.2.2⟩, (cells3' HZV2.out).1⟩) (fail)
        all_goals
          clear HS7 HUP
          have HSTE : Hid (OvStep s w V2) := HSTV1b.out.drew.grown HGV2.out (.inr (.inr rfl))
          have HZE : Hid (V2.heap[E]? = some (.cells #[.int .i64 0, .int .i64 0, .int .u32 0] 37 (0, 0))) := (grown_block HGV2.out (lt_of_heap HGEV1b.out) (ne_map (w := V1b) HGEV1b.out HOV1b.out.fresh)).trans HGEV1b.out
          obtain ⟨⟨z0, z1, z2⟩, zf⟩ := cells3' HZE.out
          obtain ⟨⟨e0, e1, e2⟩, -⟩ := cells3' HZV2.out
          have f0 := zf 0
          have f1 := zf 1
          have f2 := zf 2
          clear zf
          have HOF : Hid (∀ x y z, OvAt (((V2.setCell ⟨E, 0, none⟩ x).setCell ⟨E, 1, none⟩ y).setCell ⟨E, 2, none⟩ z) q s ({ O with fresh := putL O.fresh (h, p) (s0, g1, 0) })) := fun x y z => HOV2.out.set3 HZE.out x y z
          have HSF : Hid (∀ x y z, OvStep s w (((V2.setCell ⟨E, 0, none⟩ x).setCell ⟨E, 1, none⟩ y).setCell ⟨E, 2, none⟩ z)) := fun x y z => ((HSTE.out.setNew HEL.out x).setNew HEL.out y).setNew HEL.out z
          go_wp2
          first
            | refine bodyPost_ret (v := .tuple #[.agg #[.int .i64 _, .int .i64 _, .int .u32 _], .int .i64 _]) (results_cell2 rfl rfl rfl (load_ent (set_three _ _ _ z0 z1 z2).1 (set_three _ _ _ z0 z1 z2).2.1 (set_three _ _ _ z0 z1 z2).2.2)) rfl ⟨{ O with fresh := putL O.fresh (h, p) (s0, g1, 0) }, (s0, g1, 0), 0, rfl, HPR.out, HOF.out _ _ _, HSF.out _ _ _⟩
            | refine bodyPost_ret (v := .tuple #[.agg #[.int .i64 _, .int .i64 _, .int .u32 _], .int .i64 _]) (results_cell2 rfl rfl rfl (load_ent (set_three _ _ _ z0 z1 z2).1 (set_three _ _ _ z0 z1 z2).2.1 (set_three _ _ _ z0 z1 z2).2.2)) rfl ⟨{ O with fresh := putL O.fresh (h, p) (s0, g1, 0) }, s0, g1, 0, 0, rfl, HPR.out, HOF.out _ _ _, HSF.out _ _ _⟩
end Go.Proofs.YtjhkcdnfnmglhaaGreatDoor

/- Contracts of an overlay's Free, Parts, All, Committed. -/
namespace Go.Proofs.YtjhkcdnfnmglhaaGreatDoor
open Go.RowKit Go.Maps
set_option linter.unusedVariables false
set_option maxRecDepth 20000

/-! ### Lists -/
theorem sort_rising {ks : List Ky} (h : ks.Pairwise KLt) : sortR ks = ks := rises_same (sortR_rises ks) h fun k => sortR_mem
theorem find_or {a b : List Md} (hb : Rise b) (x : Ky) : findM (applyM a b []) x = (findM b x).or (findM a x) := by
  rw [find_apply hb.nodup]
  by_cases h : x ∈ b.map Md.k
  · rw [if_pos h]
    obtain ⟨e, he⟩ := find_in h
    rw [he, Option.some_or]
  · rw [if_neg h, if_neg (by simp), find_out.2 h, Option.none_or]
theorem apply_mem {a b : List Md} (ha : Rise a) (hb : Rise b) (hd : ∀ k, findM a k = none ∨ findM b k = none) (m : Md) : m ∈ applyM a b [] ↔ m ∈ a ∨ m ∈ b := by
  have hr := rise_apply a b []
  constructor
  · intro h
    have h2 := mem_find hr.nodup h
    rw [find_or hb] at h2
    cases hbk : findM b m.k with
    | some e =>
      rw [hbk] at h2
      simp only [Option.some_or, Option.some.injEq] at h2
      subst h2
      exact .inr (by have := find_mem hbk; rwa [md_self] at this)
    | none =>
      rw [hbk, Option.none_or] at h2
      exact .inl (by have := find_mem h2; rwa [md_self] at this)
  · intro h
    have key : findM (applyM a b []) m.k = some (m.s, m.g, m.u) := by
      rw [find_or hb]
      rcases h with h | h
      · have h1 := mem_find ha.nodup h
        have h2 : findM b m.k = none := (hd m.k).resolve_left (by rw [h1]; simp)
        rw [h2, Option.none_or, h1]
      · rw [mem_find hb.nodup h, Option.some_or]
    have := find_mem key
    rwa [md_self] at this
theorem rise_nodup {l : List Md} (h : Rise l) : l.Nodup := List.Pairwise.of_map Md.k (fun a b hne e => hne (by rw [e])) h.nodup
theorem apply_perm {a b : List Md} (ha : Rise a) (hb : Rise b) (hd : ∀ k, findM a k = none ∨ findM b k = none) : (a ++ b).Perm (applyM a b []) := by
  have hn : (a ++ b).Nodup := by
    rw [List.nodup_append]
    refine ⟨rise_nodup ha, rise_nodup hb, fun x hx y hy e => ?_⟩
    subst e
    rcases hd x.k with h | h
    · rw [mem_find ha.nodup hx] at h; cases h
    · rw [mem_find hb.nodup hy] at h; cases h
  exact (List.perm_ext_iff_of_nodup hn (rise_nodup (rise_apply a b []))).2 fun m => by rw [List.mem_append, apply_mem ha hb hd]
theorem apply_right {O : Ov} {t : Int} (h : OvOk O t) {c d : Nat} (hc : c < 3) (hd : d < 3) (hrc : Rise (O.part c)) (hrd : Rise (O.part d)) : ∀ k ∈ (applyM (O.part c) (O.part d) []).map Md.k, isR k = true := fun k hk => by
  rw [key_in, find_or hrd] at hk
  cases h1 : findM (O.part d) k with
  | some e => exact (h.fit d k e ⟨hd, h1⟩).1
  | none =>
    cases h2 : findM (O.part c) k with
    | some e => exact (h.fit c k e ⟨hc, h2⟩).1
    | none => simp [h1, h2] at hk
theorem part_right {O : Ov} {t : Int} (h : OvOk O t) {c : Nat} (hc : c < 3) : ∀ k ∈ (O.part c).map Md.k, isR k = true := fun k hk => by
  obtain ⟨e, he⟩ := find_in hk
  exact (h.fit c k e ⟨hc, he⟩).1
def committedO (O : Ov) : List Md := applyM O.base O.was []
def allO (O : Ov) : List Md := applyM O.base O.fresh []

/-! ### Slices of maps that the call makes -/
theorem Pgs.one {w : World} {b : Nat} {l : List Md} (h : MapL w b l) (e : TypeId) : Pgs (w.alloc (.cells #[.map (some b)] e)) (.slice (some ⟨w.heap.size, 0, none⟩) 1 1) [(b, l)] := by
  refine ⟨w.heap.size, rfl, by simp, fun j b' l' hj => ?_⟩
  match j, hj with
  | 0, hj =>
    simp only [List.getElem?_cons_zero, Option.some.injEq, Prod.mk.injEq] at hj
    obtain ⟨rfl, rfl⟩ := hj
    exact ⟨by simp, h.kept ((Below.refl _ _).alloc (Nat.le_refl _) _)⟩
  | j + 1, hj => simp at hj
theorem Pgs.two {w : World} {b c : Nat} {l m : List Md} (h : MapL w b l) (k : MapL w c m) (e : TypeId) : Pgs (w.alloc (.cells #[.map (some b), .map (some c)] e)) (.slice (some ⟨w.heap.size, 0, none⟩) 2 2) [(b, l), (c, m)] := by
  refine ⟨w.heap.size, rfl, by simp, fun j b' l' hj => ?_⟩
  match j, hj with
  | 0, hj =>
    simp only [List.getElem?_cons_zero, Option.some.injEq, Prod.mk.injEq] at hj
    obtain ⟨rfl, rfl⟩ := hj
    exact ⟨by simp, h.kept ((Below.refl _ _).alloc (Nat.le_refl _) _)⟩
  | 1, hj =>
    simp only [List.getElem?_cons_succ, List.getElem?_cons_zero, Option.some.injEq, Prod.mk.injEq] at hj
    obtain ⟨rfl, rfl⟩ := hj
    exact ⟨by simp, k.kept ((Below.refl _ _).alloc (Nat.le_refl _) _)⟩
  | j + 2, hj => simp at hj

/-! ### Free -/
theorem drewN_below (w : World) (m : Nat) : Below w.heap.size w (w.drewN m) := ⟨rfl, rfl, rfl, Nat.le_refl _, fun _ _ => rfl⟩
theorem freeO12_any (w : World) (q : Nat) (s : OvB) (O : Ov) (hO : OvAt w q s O) :
    Calls Tryz.prog 46 #[.pointer (some ⟨q, 0, none⟩)] w fun x w' => x = .returned (.int .i64 (O.n - cnt O.B 0 O.n : Nat)) ∧ Below w.heap.size w w' := by
  obtain ⟨c0, -, -, -⟩ := hO.cells
  have HF := free_any w s.h s.p s.b s.f s.cap O.n O.B hO.board
  clear hO
  generalize O.n - cnt O.B 0 O.n = x at *
  go_enter Tryz.func46, Tryz.ntmps46
  go_wp2_with fail
  refine HF.mono ?_
  rintro e w1 ⟨rfl, m, rfl⟩
  go_wp2
  go_ret
  exact ⟨rfl, drewN_below w m⟩

/-! ### Parts -/
set_option maxHeartbeats 2000000 in
theorem parts12_any (w : World) (q : Nat) (s : OvB) (O : Ov) (hO : OvAt w q s O) (hl : OvSmall O) (hs : (∀ m ∈ O.base, I64 m.s) ∧ (∀ m ∈ O.was, I64 m.s) ∧ ∀ m ∈ O.fresh, I64 m.s) :
    Calls Tryz.prog 26 #[.pointer (some ⟨q, 0, none⟩)] w fun x w' => ∃ u1 u2 u3, x = .returned (.tuple #[u1, u2, u3]) ∧ Nums w' u1 (slotsL O.base) ∧ Nums w' u2 (slotsL O.fresh) ∧ Nums w' u3 (slotsL O.was) ∧ Below w.heap.size w w' := by
  have HO : Hid (OvAt w q s O) := hO
  have HP1 : Hid (∀ W, OvAt W q s O → Calls Tryz.prog 29 #[.map (some s.X)] W fun e w' => ∃ u, e = .returned u ∧ Nums w' u (slotsL O.base) ∧ Below W.heap.size W w') := fun W ho => (places12_any W s.X O.base ho.base (by have := hl.1; omega) hs.1).mono fun e w' ⟨u, h1, h2, h3, _⟩ => ⟨u, h1, h2, h3⟩
  have HP2 : Hid (∀ W, OvAt W q s O → Calls Tryz.prog 29 #[.map (some s.Z)] W fun e w' => ∃ u, e = .returned u ∧ Nums w' u (slotsL O.fresh) ∧ Below W.heap.size W w') := fun W ho => (places12_any W s.Z O.fresh ho.fresh (by have := hl.2.2; omega) hs.2.2).mono fun e w' ⟨u, h1, h2, h3, _⟩ => ⟨u, h1, h2, h3⟩
  have HP3 : Hid (∀ W, OvAt W q s O → Calls Tryz.prog 29 #[.map (some s.Y)] W fun e w' => ∃ u, e = .returned u ∧ Nums w' u (slotsL O.was) ∧ Below W.heap.size W w') := fun W ho => (places12_any W s.Y O.was ho.was (by have := hl.2.1; omega) hs.2.1).mono fun e w' ⟨u, h1, h2, h3, _⟩ => ⟨u, h1, h2, h3⟩
  generalize slotsL O.base = L1 at *
  generalize slotsL O.fresh = L2 at *
  generalize slotsL O.was = L3 at *
  have HS : Hid (∀ W, OvAt W q s O → W.cell? ⟨q, 1, none⟩ = some (.map (some s.X)) ∧ W.cell? ⟨q, 2, none⟩ = some (.map (some s.Y)) ∧ W.cell? ⟨q, 3, none⟩ = some (.map (some s.Z))) := fun W ho => ho.cells.2
  clear hO hl hs
  go_enter Tryz.func26, Tryz.ntmps26
  go_wp2_with fail
  go_region_held3 (fun w' => w'.cell? ⟨q, 1, none⟩ = some (.map (some s.X)) ∧ w'.cell? ⟨q, 2, none⟩ = some (.map (some s.Y)) ∧ w'.cell? ⟨q, 3, none⟩ = some (.map (some s.Z))) (first | exact HS.out _ HO.out.drew | exact HS.out _ HO1.out | exact HS.out _ HO2.out | exact HS.out _ HO3.out) (first
    | (go_at_call 29; with_reducible refine (HP1.out _ HO.out.drew).mono ?_; rintro e w1 ⟨u1, rfl, hn1, hb1⟩
       have HN1 : Hid (Nums w1 u1 L1) := hn1
       have HB1 : Hid (Below w.heap.size w w1) := below_undrew hb1
       have HO1 : Hid (OvAt w1 q s O) := HO.out.kept HB1.out
       clear hn1 hb1)
    | (go_at_call 29; with_reducible refine (HP2.out _ HO1.out).mono ?_; rintro e w2 ⟨u2, rfl, hn2, hb2⟩
       have HN2 : Hid (Nums w2 u2 L2) := hn2
       have HN12 : Hid (Nums w2 u1 L1) := HN1.out.kept hb2
       have HB2 : Hid (Below w.heap.size w w2) := HB1.out.trans (hb2.mono HB1.out.size)
       have HO2 : Hid (OvAt w2 q s O) := HO1.out.kept hb2
       clear hn2 hb2)
    | (go_at_call 29; with_reducible refine (HP3.out _ HO2.out).mono ?_; rintro e w3 ⟨u3, rfl, hn3, hb3⟩
       have HN3 : Hid (Nums w3 u3 L3) := hn3
       have HN13 : Hid (Nums w3 u1 L1) := HN12.out.kept hb3
       have HN23 : Hid (Nums w3 u2 L2) := HN2.out.kept hb3
       have HB3 : Hid (Below w.heap.size w w3) := HB2.out.trans (hb3.mono HB2.out.size)
       have HO3 : Hid (OvAt w3 q s O) := HO2.out.kept hb3
       clear hn3 hb3))
  all_goals
    go_wp2
    refine bodyPost_ret (results_tmp3 rfl _ _ _) rfl ?_
    exact ⟨_, _, _, rfl, HN13.out, HN23.out, HN3.out, HB3.out⟩

/-! ### All, Committed -/
set_option maxHeartbeats 2000000 in
theorem all12_any (w : World) (q : Nat) (s : OvB) (O : Ov) (t : Int) (hO : OvAt w q s O) (hl : OvSmall O) (hok : OvOk O t) :
    Calls Tryz.prog 21 #[.pointer (some ⟨q, 0, none⟩)] w fun x w' => ∃ u, x = .returned u ∧ Els encM 5 w' u (allO O) ∧ Below w.heap.size w w' ∧ ∀ g, u.ownBlock = some g → w.heap.size ≤ g := by
  have HO : Hid (OvAt w q s O) := hO
  have HP1 : Hid (∀ W, OvAt W q s O → Calls Tryz.prog 50 #[.slice (some ⟨W.heap.size, 0, none⟩) 2 2] (W.alloc (.cells #[.map (some s.X), .map (some s.Z)] 68)) fun e w' => ∃ u, e = .returned u ∧ Els encM 5 w' u (allO O) ∧ Below W.heap.size W w' ∧ ∀ g, u.ownBlock = some g → W.heap.size ≤ g) := fun W ho => by
    refine (list12_any _ _ [(s.X, O.base), (s.Z, O.fresh)] (allO O) (Pgs.two ho.base ho.fresh _) ?_ (by simp) ?_ (rise_apply _ _ _) (apply_right hok (c := 0) (d := 2) (by decide) (by decide) hok.rb hok.rf)).mono ?_
    · intro x hx
      simp only [List.mem_cons, List.not_mem_nil, or_false] at hx
      rcases hx with rfl | rfl
      · exact Nat.le_trans hl.1 (by decide)
      · exact Nat.le_trans hl.2.2 (by decide)
    · simp only [List.flatMap_cons, List.flatMap_nil, List.append_nil]
      refine apply_perm hok.rb hok.rf fun k => ?_
      cases hk : findM O.base k with
      | none => exact .inl rfl
      | some e => exact .inr (hok.apart k e hk).2
    · rintro e w' ⟨u, rfl, h1, h2, h3⟩
      have hb : Below W.heap.size W (W.alloc (.cells #[.map (some s.X), .map (some s.Z)] 68)) := (Below.refl _ _).alloc (Nat.le_refl _) _
      exact ⟨u, rfl, h1, hb.trans (h2.mono hb.size), fun g hg => Nat.le_trans hb.size (h3 g hg)⟩
  generalize allO O = LL at *
  have HS : Hid (∀ W, OvAt W q s O → W.cell? ⟨q, 1, none⟩ = some (.map (some s.X)) ∧ W.cell? ⟨q, 3, none⟩ = some (.map (some s.Z))) := fun W ho => ⟨ho.cells.2.1, ho.cells.2.2.2⟩
  have HA : Hid (∀ o, OvAt (w.alloc o).drew q s O) := fun o => (HO.out.kept ((Below.refl _ _).alloc (Nat.le_refl _) o)).drew
  clear hO hl hok
  go_enter Tryz.func21, Tryz.ntmps21
  go_wp2_with fail
  go_region_held3 (fun w' => w'.cell? ⟨q, 1, none⟩ = some (.map (some s.X)) ∧ w'.cell? ⟨q, 3, none⟩ = some (.map (some s.Z))) (first | exact HS.out _ HO.out.drew | exact HS.out _ (HA.out _) | exact HS.out _ HO1.out) (first
    | (go_at_call 50; refine (HP1.out _ HO.out.drew).mono ?_; rintro e w1 ⟨u1, rfl, hn1, hb1, hg1⟩
       have HN1 : Hid (Els encM 5 w1 u1 LL) := hn1
       have HB1 : Hid (Below w.heap.size w w1) := below_undrew hb1
       have HO1 : Hid (OvAt w1 q s O) := HO.out.kept HB1.out
       have HG1 : Hid (∀ g, u1.ownBlock = some g → w.heap.size ≤ g) := hg1
       clear hn1 hb1 hg1))
  all_goals
    go_wp2
    go_ret
    exact ⟨_, rfl, HN1.out, HB1.out, HG1.out⟩
set_option maxHeartbeats 2000000 in
theorem committed12_any (w : World) (q : Nat) (s : OvB) (O : Ov) (t : Int) (hO : OvAt w q s O) (hl : OvSmall O) (hok : OvOk O t) :
    Calls Tryz.prog 22 #[.pointer (some ⟨q, 0, none⟩)] w fun x w' => ∃ u, x = .returned u ∧ Els encM 5 w' u (committedO O) ∧ Below w.heap.size w w' ∧ ∀ g, u.ownBlock = some g → w.heap.size ≤ g := by
  have HO : Hid (OvAt w q s O) := hO
  have HP1 : Hid (∀ W, OvAt W q s O → Calls Tryz.prog 50 #[.slice (some ⟨W.heap.size, 0, none⟩) 2 2] (W.alloc (.cells #[.map (some s.X), .map (some s.Y)] 68)) fun e w' => ∃ u, e = .returned u ∧ Els encM 5 w' u (committedO O) ∧ Below W.heap.size W w' ∧ ∀ g, u.ownBlock = some g → W.heap.size ≤ g) := fun W ho => by
    refine (list12_any _ _ [(s.X, O.base), (s.Y, O.was)] (committedO O) (Pgs.two ho.base ho.was _) ?_ (by simp) ?_ (rise_apply _ _ _) (apply_right hok (c := 0) (d := 1) (by decide) (by decide) hok.rb hok.rw)).mono ?_
    · intro x hx
      simp only [List.mem_cons, List.not_mem_nil, or_false] at hx
      rcases hx with rfl | rfl
      · exact Nat.le_trans hl.1 (by decide)
      · exact Nat.le_trans hl.2.1 (by decide)
    · simp only [List.flatMap_cons, List.flatMap_nil, List.append_nil]
      refine apply_perm hok.rb hok.rw fun k => ?_
      cases hk : findM O.base k with
      | none => exact .inl rfl
      | some e => exact .inr (hok.apart k e hk).1
    · rintro e w' ⟨u, rfl, h1, h2, h3⟩
      have hb : Below W.heap.size W (W.alloc (.cells #[.map (some s.X), .map (some s.Y)] 68)) := (Below.refl _ _).alloc (Nat.le_refl _) _
      exact ⟨u, rfl, h1, hb.trans (h2.mono hb.size), fun g hg => Nat.le_trans hb.size (h3 g hg)⟩
  generalize committedO O = LL at *
  have HS : Hid (∀ W, OvAt W q s O → W.cell? ⟨q, 1, none⟩ = some (.map (some s.X)) ∧ W.cell? ⟨q, 2, none⟩ = some (.map (some s.Y))) := fun W ho => ⟨ho.cells.2.1, ho.cells.2.2.1⟩
  have HA : Hid (∀ o, OvAt (w.alloc o).drew q s O) := fun o => (HO.out.kept ((Below.refl _ _).alloc (Nat.le_refl _) o)).drew
  clear hO hl hok
  go_enter Tryz.func22, Tryz.ntmps22
  go_wp2_with fail
  go_region_held3 (fun w' => w'.cell? ⟨q, 1, none⟩ = some (.map (some s.X)) ∧ w'.cell? ⟨q, 2, none⟩ = some (.map (some s.Y))) (first | exact HS.out _ HO.out.drew | exact HS.out _ (HA.out _) | exact HS.out _ HO1.out) (first
    | (go_at_call 50; refine (HP1.out _ HO.out.drew).mono ?_; rintro e w1 ⟨u1, rfl, hn1, hb1, hg1⟩
       have HN1 : Hid (Els encM 5 w1 u1 LL) := hn1
       have HB1 : Hid (Below w.heap.size w w1) := below_undrew hb1
       have HO1 : Hid (OvAt w1 q s O) := HO.out.kept HB1.out
       have HG1 : Hid (∀ g, u1.ownBlock = some g → w.heap.size ≤ g) := hg1
       clear hn1 hb1 hg1))
  all_goals
    go_wp2
    go_ret
    exact ⟨_, rfl, HN1.out, HB1.out, HG1.out⟩
end Go.Proofs.YtjhkcdnfnmglhaaGreatDoor

/- Contracts of an overlay's Diff and Keys. -/
namespace Go.Proofs.YtjhkcdnfnmglhaaGreatDoor
open Go.RowKit Go.Maps
set_option linter.unusedVariables false
set_option maxRecDepth 20000

/-! ### The closures -/
def wantD (O : Ov) (k : Ky) : Bool := !(findM O.fresh k).isSome
def wantH (H : Int) (k : Ky) : Bool := decide (k.1 = H)
set_option maxHeartbeats 2000000 in
theorem diff1_any (w : World) (c q : Nat) (s : OvB) (O : Ov) (h p : Int) (hO : OvAt w q s O) (hc : w.heap[c]? = some (.cells #[.pointer (some ⟨q, 0, none⟩)] 25 (0, 0))) (hk : KI (h, p)) :
    Calls Tryz.prog 53 #[.agg #[.int .i64 h, .int .i64 p], .pointer (some ⟨c, 0, none⟩)] w fun x w' => x = .returned (.bool (wantD O (h, p))) ∧ Below w.heap.size w w' := by
  have HK : Hid (KI (h, p)) := hk
  have HO : Hid (OvAt w q s O) := hO
  obtain ⟨fo, hfo⟩ : ∃ fo, findM O.fresh (h, p) = fo := ⟨_, rfl⟩
  obtain ⟨b0, b1, b2, hb⟩ : ∃ b0 b1 b2, entV fo = .agg #[.int .i64 b0, .int .i64 b1, .int .u32 (b2 : Nat)] := ⟨_, _, _, rfl⟩
  have HLB : Hid (∀ W', MapL W' s.Z O.fresh → (Instr.lookup 68 (.map (some s.Z)) (.agg #[.int .i64 h, .int .i64 p]) true).run Tryz.prog W' = .ok (.tuple #[.agg #[.int .i64 b0, .int .i64 b1, .int .u32 (b2 : Nat)], .bool fo.isSome]) W') := fun W' hm => by
    have h9 := hm.look (k := (h, p)) HK.out
    rw [hfo, hb] at h9
    exact h9
  have HW : Hid (wantD O (h, p) = !fo.isSome) := by unfold Hid wantD; rw [hfo]
  rw [HW.out]
  clear HW
  generalize fo.isSome = ok at *
  have HC : Hid (w.heap[c]? = some (.cells #[.pointer (some ⟨q, 0, none⟩)] 25 (0, 0))) := hc
  clear hO hc hk hfo hb
  go_enter Tryz.func53, Tryz.ntmps53
  go_wp2_with fail
  obtain ⟨V, hW⟩ : ∃ W, W = w.alloc (.cells #[.int .i64 h, .int .i64 p] 32) := ⟨_, rfl⟩
  have HB0 : Hid (Below w.heap.size w V) := by rw [hW]; exact (Below.refl _ _).alloc (Nat.le_refl _) _
  have HGA : Hid (V.heap[w.heap.size]? = some (.cells #[.int .i64 h, .int .i64 p] 32 (0, 0))) := by rw [hW]; exact heap_alloc_new w _
  have HGC : Hid (V.heap[c]? = some (.cells #[.pointer (some ⟨q, 0, none⟩)] 25 (0, 0))) := (HB0.out.block c (lt_of_heap HC.out)).trans HC.out
  have HOV : Hid (OvAt V q s O) := HO.out.kept HB0.out
  rw [← hW]
  obtain ⟨A, hA⟩ : ∃ A, A = w.heap.size := ⟨_, rfl⟩
  rw [← hA] at HGA
  try rw [← hA]
  have HA : Hid (A = w.heap.size) := hA
  clear hW hA
  have HS : Hid (∀ w', Below V.heap.size V w' → ((w'.cell? ⟨A, 0, none⟩ = some (.int .i64 h) ∧ w'.cell? ⟨A, 1, none⟩ = some (.int .i64 p)) ∧ w'.cell? ⟨c, 0, none⟩ = some (.pointer (some ⟨q, 0, none⟩))) ∧ w'.cell? ⟨q, 3, none⟩ = some (.map (some s.Z)) ∧ (Instr.lookup 68 (.map (some s.Z)) (.agg #[.int .i64 h, .int .i64 p]) true).run Tryz.prog w' = .ok (.tuple #[.agg #[.int .i64 b0, .int .i64 b1, .int .u32 (b2 : Nat)], .bool ok]) w') := fun w' hb =>
    ⟨⟨cells2' ((hb.block A (lt_of_heap HGA.out)).trans HGA.out), by rw [cell_of_row _ _ _ _ _ _ ((hb.block c (lt_of_heap HGC.out)).trans HGC.out)]; rfl⟩, (HOV.out.kept hb).cells.2.2.2, HLB.out w' (HOV.out.fresh.kept hb)⟩
  go_region_held3 (fun w' => ((w'.cell? ⟨A, 0, none⟩ = some (.int .i64 h) ∧ w'.cell? ⟨A, 1, none⟩ = some (.int .i64 p)) ∧ w'.cell? ⟨c, 0, none⟩ = some (.pointer (some ⟨q, 0, none⟩))) ∧ w'.cell? ⟨q, 3, none⟩ = some (.map (some s.Z)) ∧ (Instr.lookup 68 (.map (some s.Z)) (.agg #[.int .i64 h, .int .i64 p]) true).run Tryz.prog w' = .ok (.tuple #[.agg #[.int .i64 b0, .int .i64 b1, .int .u32 (b2 : Nat)], .bool ok]) w') (first | exact HS.out _ (Below.refl _ _).drew | exact HS.out _ ((Below.refl _ _).drew.alloc (Nat.le_refl _) _)) (fail)
  all_goals
    have HBE : Hid (Below w.heap.size w (V.alloc (.cells #[.int .i64 b0, .int .i64 b1, .int .u32 (b2 : Nat)] 37)).drew) := HB0.out.trans ((((Below.refl _ _).alloc (Nat.le_refl _) _).drew).mono HB0.out.size)
    generalize (V.alloc (.cells #[.int .i64 b0, .int .i64 b1, .int .u32 (b2 : Nat)] 37)).drew = V1 at *
    clear HS
    go_wp2
    go_ret
    exact ⟨rfl, HBE.out⟩
theorem keys1_any (w : World) (c : Nat) (H h p : Int) (hc : w.heap[c]? = some (.cells #[.int .i64 H] 3 (0, 0))) :
    Calls Tryz.prog 52 #[.agg #[.int .i64 h, .int .i64 p], .pointer (some ⟨c, 0, none⟩)] w fun x w' => x = .returned (.bool (wantH H (h, p))) ∧ Below w.heap.size w w' := by
  have hcl := lt_of_heap hc
  have c0 : (w.alloc (.cells #[.int .i64 h, .int .i64 p] 32)).cell? ⟨c, 0, none⟩ = some (.int .i64 H) := by
    rw [cell_of_row _ _ _ _ _ _ ((((Below.refl _ _).alloc (Nat.le_refl _) _ : Below _ (w) (w.alloc (.cells #[.int .i64 h, .int .i64 p] 32)))).block c hcl |>.trans hc)]; rfl
  have HW : Hid ((h == H) = wantH H (h, p)) := by unfold Hid wantH; by_cases e : h = H <;> simp [e]
  clear hc
  go_enter Tryz.func52, Tryz.ntmps52
  go_wp2
  go_ret
  exact ⟨ret_bool HW.out, (Below.refl _ _).alloc (Nat.le_refl _) _⟩
/-! ### What they are asked for -/
theorem want_rising {l : List Md} (h : Rise l) (wb : Ky → Bool) : sortR (wantK wb l) = wantK wb l := sort_rising (List.Pairwise.filter wb h)
theorem gone_is {O : Ov} (h : Rise O.was) : sortR (wantK (wantD O) ([(0, O.was)].flatMap (·.2))) = goneL O := by
  simp only [List.flatMap_cons, List.flatMap_nil, List.append_nil]
  rw [want_rising h]
  rfl
theorem keys_is {O : Ov} {t : Int} (h : OvOk O t) (H : Int) : sortR (wantK (wantH H) (O.base ++ O.fresh)) = wantK (wantH H) (allO O) := by
  have hp : (O.base ++ O.fresh).Perm (allO O) := by
    refine apply_perm h.rb h.rf fun k => ?_
    cases hk : findM O.base k with
    | none => exact .inl rfl
    | some e => exact .inr (h.apart k e hk).2
  have e := want_rising (rise_apply O.base O.fresh []) (wantH H)
  show _ = wantK (wantH H) (applyM O.base O.fresh [])
  rw [← e]
  exact sortR_alike fun k => ((hp.map Md.k).filter (wantH H)).mem_iff

/-! ### Diff -/
set_option maxHeartbeats 2000000 in
theorem diff12_any (w : World) (q : Nat) (s : OvB) (O : Ov) (t : Int) (hO : OvAt w q s O) (hl : OvSmall O) (hok : OvOk O t) :
    Calls Tryz.prog 25 #[.pointer (some ⟨q, 0, none⟩)] w fun x w' => ∃ u v, x = .returned (.tuple #[u, v]) ∧ Els encM 5 w' u O.fresh ∧ Keys w' v (goneL O) ∧ Below w.heap.size w w' ∧ (∀ g, u.ownBlock = some g → w.heap.size ≤ g) ∧ ∀ g, v.ownBlock = some g → w.heap.size ≤ g := by
  have HO : Hid (OvAt w q s O) := hO
  have hf53 : ∀ args w, Sem.run Tryz.prog (callFunc 53 args) w = .ok (.enter 53 args) w := fun _ _ => rfl
  have HL : Hid (O.base.length ≤ 490 ∧ O.was.length ≤ 490 ∧ O.fresh.length ≤ 490) := hl
  obtain ⟨V, hV⟩ : ∃ V, V = w.alloc (.cells #[.pointer (some ⟨q, 0, none⟩)] 25) := ⟨_, rfl⟩
  have HB0 : Hid (Below w.heap.size w V) := by rw [hV]; exact (Below.refl _ _).alloc (Nat.le_refl _) _
  have HGC : Hid (V.heap[w.heap.size]? = some (.cells #[.pointer (some ⟨q, 0, none⟩)] 25 (0, 0))) := by rw [hV]; exact heap_alloc_new w _
  have HOV : Hid (OvAt V q s O) := HO.out.kept HB0.out
  have HKC : Hid (Calls Tryz.prog 51 #[.func (.func 53) #[] #[.pointer (some ⟨w.heap.size, 0, none⟩)], .slice (some ⟨V.heap.size, 0, none⟩) 1 1] (V.alloc (.cells #[.map (some s.Y)] 68)) fun e w' => ∃ u, e = .returned u ∧ Keys w' u (goneL O) ∧ Below V.heap.size V w' ∧ ∀ g, u.ownBlock = some g → V.heap.size ≤ g) := by
    have hb1 : Below V.heap.size V (V.alloc (.cells #[.map (some s.Y)] 68)) := (Below.refl _ _).alloc (Nat.le_refl _) _
    refine (keysOf12_any _ 53 #[.pointer (some ⟨w.heap.size, 0, none⟩)] _ [(s.Y, O.was)] (wantD O) hf53 (Pgs.one HOV.out.was _) ?_ (by simp) ?_).mono ?_
    · intro x hx
      simp only [List.mem_cons, List.not_mem_nil, or_false] at hx
      rw [hx]
      exact HL.out.2.1
    · rintro ⟨h, p⟩ W hk hb
      have hb2 : Below V.heap.size V W := hb1.trans (hb.mono hb1.size)
      exact diff1_any W w.heap.size q s O h p (HOV.out.kept hb2) ((hb2.block _ (lt_of_heap HGC.out)).trans HGC.out) hk
    · rintro e w' ⟨u, rfl, h1, h2, h3⟩
      have e1 := gone_is (O := O) hok.rw
      simp only [List.flatMap_cons, List.flatMap_nil, List.append_nil] at h1 e1
      rw [e1] at h1
      exact ⟨u, rfl, h1, hb1.trans (h2.mono hb1.size), fun g hg => Nat.le_trans hb1.size (h3 g hg)⟩
  have HLC : Hid (∀ W, OvAt W q s O → Calls Tryz.prog 50 #[.slice (some ⟨W.heap.size, 0, none⟩) 1 1] (W.alloc (.cells #[.map (some s.Z)] 68)) fun e w' => ∃ u, e = .returned u ∧ Els encM 5 w' u O.fresh ∧ Below W.heap.size W w' ∧ ∀ g, u.ownBlock = some g → W.heap.size ≤ g) := fun W ho => by
    have hb1 : Below W.heap.size W (W.alloc (.cells #[.map (some s.Z)] 68)) := (Below.refl _ _).alloc (Nat.le_refl _) _
    refine (list12_any _ _ [(s.Z, O.fresh)] O.fresh (Pgs.one ho.fresh _) ?_ (by simp) (by simp) hok.rf (part_right hok (c := 2) (by decide))).mono ?_
    · intro x hx
      simp only [List.mem_cons, List.not_mem_nil, or_false] at hx
      rw [hx]
      exact Nat.le_trans HL.out.2.2 (by decide)
    · rintro e w' ⟨u, rfl, h1, h2, h3⟩
      exact ⟨u, rfl, h1, hb1.trans (h2.mono hb1.size), fun g hg => Nat.le_trans hb1.size (h3 g hg)⟩
  obtain ⟨c0, c1, c2, c3⟩ := HOV.out.cells
  have HC0 : Hid (∀ W, Below V.heap.size V W → (W.cell? ⟨w.heap.size, 0, none⟩ = some (.pointer (some ⟨q, 0, none⟩)) ∧ W.cell? ⟨q, 3, none⟩ = some (.map (some s.Z)))) := fun W hb => ⟨by rw [cell_of_row _ _ _ _ _ _ ((hb.block _ (lt_of_heap HGC.out)).trans HGC.out)]; rfl, (HOV.out.kept hb).cells.2.2.2⟩
  have b0 : V.cell? ⟨w.heap.size, 0, none⟩ = some (.pointer (some ⟨q, 0, none⟩)) := (HC0.out V (Below.refl _ _)).1
  have hmf : ∀ (fn : Fn) (first cap : Array Value) (w : World), (Instr.makeFunc fn first cap).run Tryz.prog w = .ok (.func fn first cap) w := fun _ _ _ _ => rfl
  have e1 : V.heap.size = w.heap.size + 1 := by rw [hV]; simp
  rw [e1] at HKC
  have HE1 : Hid (V.heap.size = w.heap.size + 1) := e1
  clear e1
  subst hV
  clear hO hl hok hf53
  go_enter Tryz.func25, Tryz.ntmps25
  go_wp2_with fail
  refine HKC.out.mono ?_
  rintro e w1 ⟨u1, rfl, hk1, hb1, ho1⟩
  rw [← HE1.out] at hb1 ho1
  have HOW1 : Hid (∀ g, u1.ownBlock = some g → w.heap.size ≤ g) := fun g hg => by have := ho1 g hg; have := HE1.out; omega
  clear ho1
  generalize w.alloc (.cells #[.pointer (some ⟨q, 0, none⟩)] 25) = V at *
  have HK1 : Hid (Keys w1 u1 (goneL O)) := hk1
  have HB1 : Hid (Below w.heap.size w w1) := HB0.out.trans (hb1.mono HB0.out.size)
  have HO1 : Hid (OvAt w1 q s O) := HOV.out.kept hb1
  obtain ⟨d0, d1⟩ := HC0.out w1 hb1
  clear hk1 hb1 c0 c1 c2 c3 b0 hmf HC0 HKC
  go_wp2_with fail
  refine (HLC.out w1 HO1.out).mono ?_
  rintro e w2 ⟨u2, rfl, hn2, hb2, ho2⟩
  have HOW2 : Hid (∀ g, u2.ownBlock = some g → w.heap.size ≤ g) := fun g hg => Nat.le_trans HB1.out.size (ho2 g hg)
  clear ho2
  have HN2 : Hid (Els encM 5 w2 u2 O.fresh) := hn2
  have HK2 : Hid (Keys w2 u1 (goneL O)) := HK1.out.kept hb2
  have HB2 : Hid (Below w.heap.size w w2) := HB1.out.trans (hb2.mono HB1.out.size)
  clear hn2 hb2 HLC d0 d1
  go_wp2
  refine bodyPost_ret (results_tmp2 rfl _ _ _) rfl ?_
  exact ⟨_, _, rfl, HN2.out, HK2.out, HB2.out, HOW2.out, HOW1.out⟩

/-! ### Keys -/
set_option maxHeartbeats 2000000 in
theorem keys12_any (w : World) (q : Nat) (s : OvB) (O : Ov) (t H : Int) (hO : OvAt w q s O) (hl : OvSmall O) (hok : OvOk O t) :
    Calls Tryz.prog 24 #[.pointer (some ⟨q, 0, none⟩), .int .i64 H] w fun x w' => ∃ u, x = .returned u ∧ Keys w' u (wantK (wantH H) (allO O)) ∧ Below w.heap.size w w' := by
  have HO : Hid (OvAt w q s O) := hO
  have hf52 : ∀ args w, Sem.run Tryz.prog (callFunc 52 args) w = .ok (.enter 52 args) w := fun _ _ => rfl
  have HL : Hid (O.base.length ≤ 490 ∧ O.was.length ≤ 490 ∧ O.fresh.length ≤ 490) := hl
  obtain ⟨V, hV⟩ : ∃ V, V = w.alloc (.cells #[.int .i64 H] 3) := ⟨_, rfl⟩
  have HB0 : Hid (Below w.heap.size w V) := by rw [hV]; exact (Below.refl _ _).alloc (Nat.le_refl _) _
  have HGC : Hid (V.heap[w.heap.size]? = some (.cells #[.int .i64 H] 3 (0, 0))) := by rw [hV]; exact heap_alloc_new w _
  have HOV : Hid (OvAt V q s O) := HO.out.kept HB0.out
  have HKC : Hid (∀ W, Below V.heap.size V W → Calls Tryz.prog 51 #[.func (.func 52) #[] #[.pointer (some ⟨w.heap.size, 0, none⟩)], .slice (some ⟨W.heap.size, 0, none⟩) 2 2] (W.alloc (.cells #[.map (some s.X), .map (some s.Z)] 68)) fun e w' => ∃ u, e = .returned u ∧ Keys w' u (wantK (wantH H) (allO O)) ∧ Below V.heap.size V w') := fun W hbW => by
    have hb1 : Below W.heap.size W (W.alloc (.cells #[.map (some s.X), .map (some s.Z)] 68)) := (Below.refl _ _).alloc (Nat.le_refl _) _
    have ho := HOV.out.kept hbW
    refine (keysOf12_any _ 52 #[.pointer (some ⟨w.heap.size, 0, none⟩)] _ [(s.X, O.base), (s.Z, O.fresh)] (wantH H) hf52 (Pgs.two ho.base ho.fresh _) ?_ (by simp) ?_).mono ?_
    · intro x hx
      simp only [List.mem_cons, List.not_mem_nil, or_false] at hx
      rcases hx with rfl | rfl
      · exact HL.out.1
      · exact HL.out.2.2
    · rintro ⟨h, p⟩ W2 hk hb
      have hb2 : Below V.heap.size V W2 := hbW.trans ((hb1.trans (hb.mono hb1.size)).mono hbW.size)
      exact keys1_any W2 w.heap.size H h p ((hb2.block _ (lt_of_heap HGC.out)).trans HGC.out)
    · rintro e w' ⟨u, rfl, h1, h2, -⟩
      simp only [List.flatMap_cons, List.flatMap_nil, List.append_nil] at h1
      rw [keys_is hok] at h1
      exact ⟨u, rfl, h1, hbW.trans ((hb1.trans (h2.mono hb1.size)).mono hbW.size)⟩
  have HS : Hid (∀ W, OvAt W q s O → W.cell? ⟨q, 1, none⟩ = some (.map (some s.X)) ∧ W.cell? ⟨q, 3, none⟩ = some (.map (some s.Z))) := fun W ho => ⟨ho.cells.2.1, ho.cells.2.2.2⟩
  have HA : Hid (∀ o, OvAt (V.alloc o).drew q s O) := fun o => (HOV.out.kept ((Below.refl _ _).alloc (Nat.le_refl _) o)).drew
  have hmf : ∀ (fn : Fn) (first cap : Array Value) (w : World), (Instr.makeFunc fn first cap).run Tryz.prog w = .ok (.func fn first cap) w := fun _ _ _ _ => rfl
  generalize wantK (wantH H) (allO O) = LL at *
  clear hO hl hok hf52 HGC
  go_enter Tryz.func24, Tryz.ntmps24
  go_wp2_with fail
  rw [← hV]
  clear hV
  go_region_held3 (fun w' => w'.cell? ⟨q, 1, none⟩ = some (.map (some s.X)) ∧ w'.cell? ⟨q, 3, none⟩ = some (.map (some s.Z))) (first | exact HS.out _ HOV.out.drew | exact HS.out _ (HA.out _) | exact HS.out _ HO1.out) (first
    | (go_at_call 51; refine (HKC.out _ (Below.refl _ _).drew).mono ?_; rintro e w1 ⟨u1, rfl, hn1, hb1⟩
       have HN1 : Hid (Keys w1 u1 LL) := hn1
       have HB1 : Hid (Below w.heap.size w w1) := HB0.out.trans (hb1.mono HB0.out.size)
       have HO1 : Hid (OvAt w1 q s O) := HOV.out.kept hb1
       clear hn1 hb1))
  all_goals
    go_wp2
    go_ret
    exact ⟨_, rfl, HN1.out, HB1.out⟩
end Go.Proofs.YtjhkcdnfnmglhaaGreatDoor
