/- The statements' own first machine. -/
import Derived.Test.YtehnhjdjjalifaaGreatDoorQ15
import Derived.Deep.RegionWith
namespace Go.Proofs.YtehnhjdjjalifaaGreatDoor
open Go Go.RowKit Go.Shelf
set_option linter.unusedVariables false
set_option maxHeartbeats 4000000
set_option maxRecDepth 20000

theorem start_any (w : World) : Calls Tryz.prog 22 #[] w fun e w' => ∃ M, e = .returned (.agg M) ∧ Hid (BL w' M sBd ∧ Below w.heap.size w w') := by
  obtain ⟨M1, hM1, mk1⟩ := made_by 2048
  obtain ⟨M2, hM2, mk2⟩ := made_by 512
  have m1 := fun v => mk1 v (by decide)
  have m2 := fun v => mk2 v (by decide)
  simp only [Int.cast_ofNat_Int] at m1 m2
  clear mk1 mk2
  have hEnd : Hid (∀ (y : World) (g g' : Nat), Bx y g M1 5 → Bx y g' M2 5 → BL y (bCs sBd (.slice (some ⟨g, 0, none⟩) 2048 2048) (.slice (some ⟨g', 0, none⟩) 512 512)) sBd) := fun y g g' h1 h2 => by
    rw [hM1] at h1
    rw [hM2] at h2
    refine ⟨⟨some ⟨g, 0, none⟩, 2048, some ⟨g', 0, none⟩, 512, ?_, lies_bx h1, lies_bx h2⟩, sBd_ok, by decide, by decide, by decide⟩
    rw [sBd_ram, sBd_rom]
  clear hM1 hM2
  go_enter Tryz.func22, Tryz.ntmps22
  go_upto_region 1 with (fail)
  have K0 : Hid (Fm w [(w.heap.size, zBd, 34)] (w.alloc (.cells #[.int .u16 0, .int .u16 0, .int .u16 0, .int .u16 0, .int .u16 0, .int .u16 0, .int .u16 0, .int .u16 0, .int .u16 0, .int .u16 0, .int .u16 0, .int .u16 0, .int .u16 0, .int .u16 0, .int .u16 0, .int .u16 0, .int .u8 0, .bool false, .int .u8 0, .int .u8 0, .int .u8 0, .bool false, .bool false, .int .u8 0, .int .u8 0, .int .u8 0, .int .i64 0, .int .i64 0, .bool false, .int .i64 0, .int .u8 0, .bool false, .slice none 0 0, .slice none 0 0, .int .u64 0] 34))) := Fm.one w _ _
  generalize (w.alloc (.cells #[.int .u16 0, .int .u16 0, .int .u16 0, .int .u16 0, .int .u16 0, .int .u16 0, .int .u16 0, .int .u16 0, .int .u16 0, .int .u16 0, .int .u16 0, .int .u16 0, .int .u16 0, .int .u16 0, .int .u16 0, .int .u16 0, .int .u8 0, .bool false, .int .u8 0, .int .u8 0, .int .u8 0, .bool false, .bool false, .int .u8 0, .int .u8 0, .int .u8 0, .int .i64 0, .int .i64 0, .bool false, .int .i64 0, .int .u8 0, .bool false, .slice none 0 0, .slice none 0 0, .int .u64 0] 34)) = y0 at K0 ⊢
  have K1' : Hid (Fm w [(w.heap.size, zBd, 34)] y0.drew) := K0.out.below (below_drew (Below.refl _ _))
  refine wp_region_held_drew (S := fun _ => True) (by kernel_rfl) trivial (fun hH => ?_)
  obtain ⟨y1, hy1⟩ : ∃ z, y0.drew = z := ⟨_, rfl⟩
  rw [hy1] at K1' ⊢
  have K1 := K1'
  clear K1' hy1 K0
  refine wpAnyH_take (oi := ⟨some 1, _, _, _, _, _⟩) (i := 0) (v := .agg (cCs sBd)) rfl (by kernel_rfl) (by kernel_rfl) (by kernel_rfl) (fun _ _ _ h => h) (.inl ⟨by kernel_rfl, fun u hu => by go_simp; all_goals (first | rfl | kernel_rfl)⟩) trivial ?_
  try simp only [Act.put, List.setIfInBounds_toArray, List.set_cons_zero, List.set_cons_succ]
  refine wpAnyH_ready (rs := [1, 2]) (by kernel_rfl) (by simp) (AllReadyH.cons rfl (fun K hK => ?_) (AllReadyH.cons rfl (fun K hK => ?_) AllReadyH.nil))
  · rw [if_pos (by rfl)]
    have mk := m1 y1
    go_wp2
    refine hK.out _ _ trivial (fun hH => ?_)
    clear hK K mk
    try simp only [Act.put, List.setIfInBounds_toArray, List.set_cons_zero, List.set_cons_succ]
    have Q1 : Hid (Fm w [(w.heap.size, zBd, 34)] (y1.alloc (.cells M1 5)) ∧ Bx (y1.alloc (.cells M1 5)) y1.heap.size M1 5 ∧ w.heap.size < y1.heap.size) := ⟨K1.out.below (below1 y1 _), one_bxL _ _ _, heap_lt (K1.out.bx 0 _ _ _ rfl)⟩
    generalize y1.heap.size = ga at Q1 ⊢
    generalize (y1.alloc (.cells M1 5)) = z1 at Q1 ⊢
    refine wpAnyH_ready (rs := [2]) (by kernel_rfl) (by simp) (AllReadyH.cons rfl (fun K hK => ?_) AllReadyH.nil)
    rw [if_pos (by rfl)]
    have mk := m2 z1
    go_wp2
    refine hK.out _ _ trivial (fun hH => ?_)
    clear hK K mk
    try simp only [Act.put, List.setIfInBounds_toArray, List.set_cons_zero, List.set_cons_succ]
    have Q2 : Hid (Fm w [(w.heap.size, zBd, 34)] (z1.alloc (.cells M2 5)) ∧ Bx (z1.alloc (.cells M2 5)) ga M1 5 ∧ Bx (z1.alloc (.cells M2 5)) z1.heap.size M2 5 ∧ w.heap.size < ga ∧ w.heap.size < z1.heap.size) := ⟨Q1.out.1.below (below1 z1 _), ((below1 z1 (.cells M2 5)).block _ (heap_lt Q1.out.2.1)).trans Q1.out.2.1, one_bxL _ _ _, Q1.out.2.2, heap_lt (Q1.out.1.bx 0 _ _ _ rfl)⟩
    generalize z1.heap.size = gb at Q2 ⊢
    generalize (z1.alloc (.cells M2 5)) = z2 at Q2 ⊢
    refine wpAnyH_take (oi := ⟨some 4, _, _, _, _, _⟩) (i := 3) (v := .agg (bCs sBd (.slice (some ⟨ga, 0, none⟩) 2048 2048) (.slice (some ⟨gb, 0, none⟩) 512 512))) rfl (by kernel_rfl) (by kernel_rfl) (by kernel_rfl) (fun _ _ _ h => h) (.inl ⟨by kernel_rfl, fun u hu => by go_simp; all_goals (first | rfl | kernel_rfl)⟩) trivial ?_
    try simp only [Act.put, List.setIfInBounds_toArray, List.set_cons_zero, List.set_cons_succ]
    refine wpAnyH_ready (rs := [4]) (by kernel_rfl) (by simp) (AllReadyH.cons rfl (fun K hK => ?_) AllReadyH.nil)
    rw [if_pos (by rfl)]
    refine wp_st rtBd w.heap.size zBd (bCs sBd (.slice (some ⟨ga, 0, none⟩) 2048 2048) (.slice (some ⟨gb, 0, none⟩) 512 512)) (Q2.out.1.bx 0 _ _ _ rfl) rfl rfl (bCs_one _ _ _ _ _ _ _) _ _ rfl rfl rfl ?_
    intro y9 h9
    have K9 : Hid (Bx y9 w.heap.size (bCs sBd (.slice (some ⟨ga, 0, none⟩) 2048 2048) (.slice (some ⟨gb, 0, none⟩) 512 512)) 34 ∧ Below w.heap.size w y9 ∧ BL y9 (bCs sBd (.slice (some ⟨ga, 0, none⟩) 2048 2048) (.slice (some ⟨gb, 0, none⟩) 512 512)) sBd) := ⟨h9.out.1, Q2.out.1.low.trans (h9.out.2.1 _ (Nat.le_refl _)), hEnd.out y9 _ _ ((h9.out.2.2 _ (Nat.ne_of_gt Q2.out.2.2.2.1)).trans Q2.out.2.1) ((h9.out.2.2 _ (Nat.ne_of_gt Q2.out.2.2.2.2)).trans Q2.out.2.2.1)⟩
    clear h9
    refine hK.out _ _ trivial (fun _ => ?_)
    clear hK K
    try simp only [Act.put]
    refine wpAnyH_done (by kernel_rfl) ?_ _
    go_wp2
    exact ret_row rtBd rfl rfl K9.out.1 rfl rfl ⟨_, rfl, K9.out.2.2, K9.out.2.1⟩
  · rw [if_pos (by rfl)]
    have mk := m2 y1
    go_wp2
    refine hK.out _ _ trivial (fun hH => ?_)
    clear hK K mk
    try simp only [Act.put, List.setIfInBounds_toArray, List.set_cons_zero, List.set_cons_succ]
    have Q1 : Hid (Fm w [(w.heap.size, zBd, 34)] (y1.alloc (.cells M2 5)) ∧ Bx (y1.alloc (.cells M2 5)) y1.heap.size M2 5 ∧ w.heap.size < y1.heap.size) := ⟨K1.out.below (below1 y1 _), one_bxL _ _ _, heap_lt (K1.out.bx 0 _ _ _ rfl)⟩
    generalize y1.heap.size = ga at Q1 ⊢
    generalize (y1.alloc (.cells M2 5)) = z1 at Q1 ⊢
    refine wpAnyH_ready (rs := [1]) (by kernel_rfl) (by simp) (AllReadyH.cons rfl (fun K hK => ?_) AllReadyH.nil)
    rw [if_pos (by rfl)]
    have mk := m1 z1
    go_wp2
    refine hK.out _ _ trivial (fun hH => ?_)
    clear hK K mk
    try simp only [Act.put, List.setIfInBounds_toArray, List.set_cons_zero, List.set_cons_succ]
    have Q2 : Hid (Fm w [(w.heap.size, zBd, 34)] (z1.alloc (.cells M1 5)) ∧ Bx (z1.alloc (.cells M1 5)) ga M2 5 ∧ Bx (z1.alloc (.cells M1 5)) z1.heap.size M1 5 ∧ w.heap.size < ga ∧ w.heap.size < z1.heap.size) := ⟨Q1.out.1.below (below1 z1 _), ((below1 z1 (.cells M1 5)).block _ (heap_lt Q1.out.2.1)).trans Q1.out.2.1, one_bxL _ _ _, Q1.out.2.2, heap_lt (Q1.out.1.bx 0 _ _ _ rfl)⟩
    generalize z1.heap.size = gb at Q2 ⊢
    generalize (z1.alloc (.cells M1 5)) = z2 at Q2 ⊢
    refine wpAnyH_take (oi := ⟨some 4, _, _, _, _, _⟩) (i := 3) (v := .agg (bCs sBd (.slice (some ⟨gb, 0, none⟩) 2048 2048) (.slice (some ⟨ga, 0, none⟩) 512 512))) rfl (by kernel_rfl) (by kernel_rfl) (by kernel_rfl) (fun _ _ _ h => h) (.inl ⟨by kernel_rfl, fun u hu => by go_simp; all_goals (first | rfl | kernel_rfl)⟩) trivial ?_
    try simp only [Act.put, List.setIfInBounds_toArray, List.set_cons_zero, List.set_cons_succ]
    refine wpAnyH_ready (rs := [4]) (by kernel_rfl) (by simp) (AllReadyH.cons rfl (fun K hK => ?_) AllReadyH.nil)
    rw [if_pos (by rfl)]
    refine wp_st rtBd w.heap.size zBd (bCs sBd (.slice (some ⟨gb, 0, none⟩) 2048 2048) (.slice (some ⟨ga, 0, none⟩) 512 512)) (Q2.out.1.bx 0 _ _ _ rfl) rfl rfl (bCs_one _ _ _ _ _ _ _) _ _ rfl rfl rfl ?_
    intro y9 h9
    have K9 : Hid (Bx y9 w.heap.size (bCs sBd (.slice (some ⟨gb, 0, none⟩) 2048 2048) (.slice (some ⟨ga, 0, none⟩) 512 512)) 34 ∧ Below w.heap.size w y9 ∧ BL y9 (bCs sBd (.slice (some ⟨gb, 0, none⟩) 2048 2048) (.slice (some ⟨ga, 0, none⟩) 512 512)) sBd) := ⟨h9.out.1, Q2.out.1.low.trans (h9.out.2.1 _ (Nat.le_refl _)), hEnd.out y9 _ _ ((h9.out.2.2 _ (Nat.ne_of_gt Q2.out.2.2.2.2)).trans Q2.out.2.2.1) ((h9.out.2.2 _ (Nat.ne_of_gt Q2.out.2.2.2.1)).trans Q2.out.2.1)⟩
    clear h9
    refine hK.out _ _ trivial (fun _ => ?_)
    clear hK K
    try simp only [Act.put]
    refine wpAnyH_done (by kernel_rfl) ?_ _
    go_wp2
    exact ret_row rtBd rfl rfl K9.out.1 rfl rfl ⟨_, rfl, K9.out.2.2, K9.out.2.1⟩
end Go.Proofs.YtehnhjdjjalifaaGreatDoor
