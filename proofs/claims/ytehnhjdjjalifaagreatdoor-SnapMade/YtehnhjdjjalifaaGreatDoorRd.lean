/- Whether a raster may be so, by the program. -/
import Derived.Test.YtehnhjdjjalifaaGreatDoorRc
namespace Go.Proofs.YtehnhjdjjalifaaGreatDoor
open Go Go.RowKit
set_option linter.unusedVariables false
set_option maxHeartbeats 1000000
set_option maxRecDepth 20000

theorem mayB_no {r : Ra} (h : ¬ May r) : checkM r = 50 := by
  unfold checkM
  rw [if_neg (fun e => h ((mayB_iff r).1 e))]
theorem mayB_yes {r : Ra} (h : May r) : checkM r = 0 := by
  unfold checkM
  rw [if_pos ((mayB_iff r).2 h)]
theorem check_bad0 (w : World) (r : Ra) (h : r.L < 0) : Calls Tryz.prog 31 #[.agg (raC r)] w fun e w' => e = .returned (.int .i64 (checkM r)) ∧ Below w.heap.size w w' := by
  rw [mayB_no (fun m => by have := m.l0; have := m.l1; have := m.c0; have := m.c1; omega)]
  have hF : Hid (Fm w [(w.heap.size, raC r, 28)] (w.alloc (.cells (raC r) 28))) := Fm.one w _ _
  obtain ⟨l, hl⟩ : ∃ l, r.L = l := ⟨_, rfl⟩
  obtain ⟨c, hc⟩ : ∃ c, r.C = c := ⟨_, rfl⟩
  obtain ⟨g, hg⟩ : ∃ g, r.G = g := ⟨_, rfl⟩
  rw [hl] at h
  have q0 : decide (l < 0) = true := by simp; omega
  replace hl : Hid _ := hl
  replace hc : Hid _ := hc
  replace hg : Hid _ := hg
  clear h
  go_enter Tryz.func31, Tryz.ntmps31
  go_wp2_with (first | (refine gen_world (w.alloc (.cells (raC r) 28)) (Fm w [(w.heap.size, raC r, 28)]) hF.out ?_; intro y K; have d0 := (K.out.bx 0 _ _ _ rfl).c 0 _ (raC_L r); have d1 := (K.out.bx 0 _ _ _ rfl).c 1 _ (raC_C r); have d3 := (K.out.bx 0 _ _ _ rfl).c 3 _ (raC_G r); rw [hl.out] at d0; rw [hc.out] at d1; rw [hg.out] at d3))
  go_ret
  exact ⟨by first | rfl | simp, K.out.low⟩
theorem check_bad1 (w : World) (r : Ra) (h : 0 ≤ r.L ∧ 262 ≤ r.L) : Calls Tryz.prog 31 #[.agg (raC r)] w fun e w' => e = .returned (.int .i64 (checkM r)) ∧ Below w.heap.size w w' := by
  rw [mayB_no (fun m => by have := m.l0; have := m.l1; have := m.c0; have := m.c1; omega)]
  have hF : Hid (Fm w [(w.heap.size, raC r, 28)] (w.alloc (.cells (raC r) 28))) := Fm.one w _ _
  obtain ⟨l, hl⟩ : ∃ l, r.L = l := ⟨_, rfl⟩
  obtain ⟨c, hc⟩ : ∃ c, r.C = c := ⟨_, rfl⟩
  obtain ⟨g, hg⟩ : ∃ g, r.G = g := ⟨_, rfl⟩
  rw [hl] at h
  have q0 : decide (l < 0) = false := by simp; omega
  have q1 : decide (262 ≤ l) = true := by simp; omega
  replace hl : Hid _ := hl
  replace hc : Hid _ := hc
  replace hg : Hid _ := hg
  clear h
  go_enter Tryz.func31, Tryz.ntmps31
  go_wp2_with (first | (refine gen_world (w.alloc (.cells (raC r) 28)) (Fm w [(w.heap.size, raC r, 28)]) hF.out ?_; intro y K; have d0 := (K.out.bx 0 _ _ _ rfl).c 0 _ (raC_L r); have d1 := (K.out.bx 0 _ _ _ rfl).c 1 _ (raC_C r); have d3 := (K.out.bx 0 _ _ _ rfl).c 3 _ (raC_G r); rw [hl.out] at d0; rw [hc.out] at d1; rw [hg.out] at d3))
  go_ret
  exact ⟨by first | rfl | simp, K.out.low⟩
theorem check_bad2 (w : World) (r : Ra) (h : 0 ≤ r.L ∧ r.L ≤ 261 ∧ r.C < 0) : Calls Tryz.prog 31 #[.agg (raC r)] w fun e w' => e = .returned (.int .i64 (checkM r)) ∧ Below w.heap.size w w' := by
  rw [mayB_no (fun m => by have := m.l0; have := m.l1; have := m.c0; have := m.c1; omega)]
  have hF : Hid (Fm w [(w.heap.size, raC r, 28)] (w.alloc (.cells (raC r) 28))) := Fm.one w _ _
  obtain ⟨l, hl⟩ : ∃ l, r.L = l := ⟨_, rfl⟩
  obtain ⟨c, hc⟩ : ∃ c, r.C = c := ⟨_, rfl⟩
  obtain ⟨g, hg⟩ : ∃ g, r.G = g := ⟨_, rfl⟩
  rw [hl, hc] at h
  have q0 : decide (l < 0) = false := by simp; omega
  have q1 : decide (262 ≤ l) = false := by simp; omega
  have q2 : decide (c < 0) = true := by simp; omega
  replace hl : Hid _ := hl
  replace hc : Hid _ := hc
  replace hg : Hid _ := hg
  clear h
  go_enter Tryz.func31, Tryz.ntmps31
  go_wp2_with (first | (refine gen_world (w.alloc (.cells (raC r) 28)) (Fm w [(w.heap.size, raC r, 28)]) hF.out ?_; intro y K; have d0 := (K.out.bx 0 _ _ _ rfl).c 0 _ (raC_L r); have d1 := (K.out.bx 0 _ _ _ rfl).c 1 _ (raC_C r); have d3 := (K.out.bx 0 _ _ _ rfl).c 3 _ (raC_G r); rw [hl.out] at d0; rw [hc.out] at d1; rw [hg.out] at d3))
  go_ret
  exact ⟨by first | rfl | simp, K.out.low⟩
theorem check_bad3 (w : World) (r : Ra) (h : 0 ≤ r.L ∧ r.L ≤ 261 ∧ 0 ≤ r.C ∧ 14 ≤ r.C) : Calls Tryz.prog 31 #[.agg (raC r)] w fun e w' => e = .returned (.int .i64 (checkM r)) ∧ Below w.heap.size w w' := by
  rw [mayB_no (fun m => by have := m.l0; have := m.l1; have := m.c0; have := m.c1; omega)]
  have hF : Hid (Fm w [(w.heap.size, raC r, 28)] (w.alloc (.cells (raC r) 28))) := Fm.one w _ _
  obtain ⟨l, hl⟩ : ∃ l, r.L = l := ⟨_, rfl⟩
  obtain ⟨c, hc⟩ : ∃ c, r.C = c := ⟨_, rfl⟩
  obtain ⟨g, hg⟩ : ∃ g, r.G = g := ⟨_, rfl⟩
  rw [hl, hc] at h
  have q0 : decide (l < 0) = false := by simp; omega
  have q1 : decide (262 ≤ l) = false := by simp; omega
  have q2 : decide (c < 0) = false := by simp; omega
  have q3 : decide (14 ≤ c) = true := by simp; omega
  replace hl : Hid _ := hl
  replace hc : Hid _ := hc
  replace hg : Hid _ := hg
  clear h
  go_enter Tryz.func31, Tryz.ntmps31
  go_wp2_with (first | (refine gen_world (w.alloc (.cells (raC r) 28)) (Fm w [(w.heap.size, raC r, 28)]) hF.out ?_; intro y K; have d0 := (K.out.bx 0 _ _ _ rfl).c 0 _ (raC_L r); have d1 := (K.out.bx 0 _ _ _ rfl).c 1 _ (raC_C r); have d3 := (K.out.bx 0 _ _ _ rfl).c 3 _ (raC_G r); rw [hl.out] at d0; rw [hc.out] at d1; rw [hg.out] at d3))
  go_ret
  exact ⟨by first | rfl | simp, K.out.low⟩
theorem check_in (w : World) (tb : Tl w) (r : Ra) (l0 : 0 ≤ r.L) (l1 : r.L ≤ 261) (c0 : 0 ≤ r.C) (c1 : r.C ≤ 13) : Calls Tryz.prog 31 #[.agg (raC r)] w fun e w' => e = .returned (.int .i64 (checkM r)) ∧ Below w.heap.size w w' := by
  have hF : Hid (Fm w [(w.heap.size, raC r, 28)] (w.alloc (.cells (raC r) 28))) := Fm.one w _ _
  obtain ⟨l, hl⟩ : ∃ l, r.L = l := ⟨_, rfl⟩
  obtain ⟨c, hc⟩ : ∃ c, r.C = c := ⟨_, rfl⟩
  obtain ⟨g, hg⟩ : ∃ g, r.G = g := ⟨_, rfl⟩
  have tb' : Hid (Tl w) := tb
  have hM := fun v t => most_any v t r c0 c1
  obtain ⟨M, hMe⟩ : ∃ M, mostM r = M := ⟨_, rfl⟩
  rw [hMe] at hM
  have hX : Hid (checkM r = if 0 ≤ g ∧ g ≤ M then 0 else 50) := (by
    by_cases h : 0 ≤ g ∧ g ≤ M
    · rw [if_pos h]; exact mayB_yes ⟨l0, l1, c0, c1, by rw [hg]; exact h.1, by rw [hg, hMe]; exact h.2⟩
    · rw [if_neg h]; exact mayB_no (fun m => h ⟨by rw [← hg]; exact m.g0, by rw [← hg, ← hMe]; exact m.g1⟩) : checkM r = if 0 ≤ g ∧ g ≤ M then 0 else 50)
  obtain ⟨X, hXe⟩ : ∃ X, checkM r = X := ⟨_, rfl⟩
  rw [hXe] at hX
  rw [hXe]
  rw [hl] at l0 l1
  rw [hc] at c0 c1
  have q0 : decide (l < 0) = false := by simp; omega
  have q1 : decide (262 ≤ l) = false := by simp; omega
  have q2 : decide (c < 0) = false := by simp; omega
  have q3 : decide (14 ≤ c) = false := by simp; omega
  replace hl : Hid _ := hl
  replace hc : Hid _ := hc
  replace hg : Hid _ := hg
  clear l0 l1 c0 c1 hMe hXe tb
  by_cases hn : g < 0
  · have q4 : decide (g < 0) = true := by simpa using hn
    replace hX : Hid (X = 50) := (by rw [hX.out, if_neg (by omega)] : X = 50)
    clear hn hM
    go_enter Tryz.func31, Tryz.ntmps31
    go_wp2_with (first | (refine gen_world (w.alloc (.cells (raC r) 28)) (Fm w [(w.heap.size, raC r, 28)]) hF.out ?_; intro y K; have d0 := (K.out.bx 0 _ _ _ rfl).c 0 _ (raC_L r); have d1 := (K.out.bx 0 _ _ _ rfl).c 1 _ (raC_C r); have d3 := (K.out.bx 0 _ _ _ rfl).c 3 _ (raC_G r); rw [hl.out] at d0; rw [hc.out] at d1; rw [hg.out] at d3))
    refine region_class_tail 9 (Fm w [(w.heap.size, raC r, 28)]) (by kernel_rfl) (by kernel_rfl) (K.out.below (below_drew (Below.refl _ _))) ?_
    simp only [List.take_succ_cons, List.take_zero, List.drop_succ_cons, List.drop_zero]
    with_reducible refine quiet_one (.pointer (some ⟨w.heap.size, 3, none⟩)) ?_ ?_ ?_
    · kernel_rfl
    · intro u hy; go_simp
    with_reducible refine quiet_one (.int .i64 g) ?_ ?_ ?_
    · kernel_rfl
    · intro u hy; have d3 := (hy.bx 0 _ _ _ rfl).c 3 _ (raC_G r); rw [hg.out] at d3; go_simp
    with_reducible refine quiet_one (.bool true) ?_ ?_ ?_
    · kernel_rfl
    · intro u hy; go_simp
    with_reducible refine quiet_one (.bool true) ?_ ?_ ?_
    · kernel_rfl
    · intro u hy; go_simp
    with_reducible refine quiet_skip ?_ ?_
    · kernel_rfl
    with_reducible refine quiet_skip ?_ ?_
    · kernel_rfl
    with_reducible refine quiet_skip ?_ ?_
    · kernel_rfl
    with_reducible refine quiet_skip ?_ ?_
    · kernel_rfl
    with_reducible refine quiet_skip ?_ ?_
    · kernel_rfl
    refine wpQuiet_nil ?_
    intro z K1
    replace K1 : Hid _ := K1
    go_simp
    go_wp2
    go_ret
    exact ⟨by rw [hX.out]; first | rfl | simp, K1.out.low⟩
  · have q4 : decide (g < 0) = false := by simpa using hn
    obtain ⟨b, hb⟩ : ∃ b, decide (M < g) = b := ⟨_, rfl⟩
    replace hX : Hid (X = if b then 50 else 0) := (by rw [hX.out, ← hb]; by_cases h : M < g <;> simp [h] <;> omega : X = if b then 50 else 0)
    clear hn
    go_enter Tryz.func31, Tryz.ntmps31
    go_wp2_with (first | (refine gen_world (w.alloc (.cells (raC r) 28)) (Fm w [(w.heap.size, raC r, 28)]) hF.out ?_; intro y K; have d0 := (K.out.bx 0 _ _ _ rfl).c 0 _ (raC_L r); have d1 := (K.out.bx 0 _ _ _ rfl).c 1 _ (raC_C r); have d3 := (K.out.bx 0 _ _ _ rfl).c 3 _ (raC_G r); rw [hl.out] at d0; rw [hc.out] at d1; rw [hg.out] at d3))
    refine region_class_tail 9 (Fm w [(w.heap.size, raC r, 28)]) (by kernel_rfl) (by kernel_rfl) (K.out.below (below_drew (Below.refl _ _))) ?_
    simp only [List.take_succ_cons, List.take_zero, List.drop_succ_cons, List.drop_zero]
    with_reducible refine quiet_one (.pointer (some ⟨w.heap.size, 3, none⟩)) ?_ ?_ ?_
    · kernel_rfl
    · intro u hy; go_simp
    with_reducible refine quiet_one (.int .i64 g) ?_ ?_ ?_
    · kernel_rfl
    · intro u hy; have d3 := (hy.bx 0 _ _ _ rfl).c 3 _ (raC_G r); rw [hg.out] at d3; go_simp
    with_reducible refine quiet_one (.bool false) ?_ ?_ ?_
    · kernel_rfl
    · intro u hy; go_simp
    with_reducible refine quiet_one (.bool false) ?_ ?_ ?_
    · kernel_rfl
    · intro u hy; go_simp
    with_reducible refine quiet_one (.pointer (some ⟨w.heap.size, 3, none⟩)) ?_ ?_ ?_
    · kernel_rfl
    · intro u hy; go_simp
    with_reducible refine quiet_one (.int .i64 g) ?_ ?_ ?_
    · kernel_rfl
    · intro u hy; have d3 := (hy.bx 0 _ _ _ rfl).c 3 _ (raC_G r); rw [hg.out] at d3; go_simp
    with_reducible refine quiet_one (.agg (raC r)) ?_ ?_ ?_
    · kernel_rfl
    · intro u hy
      generalize ha : Act.put _ _ _ = a
      have e1 : a.eval (.tmp 1) = .pointer (some ⟨w.heap.size, 0, none⟩) := by rw [← ha]; go_simp
      clear ha
      exact q_load (C := Fm w [(w.heap.size, raC r, 28)]) rtR w.heap.size (raC r) (fun _ h => h.bx 0 _ _ _ rfl) rfl (.tmp 1) rfl e1 u hy
    with_reducible refine quiet_one (.int .i64 M) ?_ ?_ ?_
    · kernel_rfl
    · intro u hy
      have d := (hM u (tb'.out.below hy.low)).mono fun e w' (h : _ ∧ _) => And.intro h.1 (hy.below h.2)
      go_simp
      all_goals exact d
    with_reducible refine quiet_one (.bool b) ?_ ?_ ?_
    · kernel_rfl
    · intro u hy; go_simp
    refine wpQuiet_nil ?_
    intro z K1
    replace K1 : Hid _ := K1
    go_simp
    clear hb
    cases b
    · go_wp2
      go_ret
      exact ⟨by rw [hX.out]; first | rfl | simp, K1.out.low⟩
    · go_wp2
      go_ret
      exact ⟨by rw [hX.out]; first | rfl | simp, K1.out.low⟩
theorem check_any (w : World) (tb : Tl w) (r : Ra) : Calls Tryz.prog 31 #[.agg (raC r)] w fun e w' => e = .returned (.int .i64 (checkM r)) ∧ Below w.heap.size w w' := by
  by_cases h0 : r.L < 0
  · exact check_bad0 w r h0
  by_cases h1 : 262 ≤ r.L
  · exact check_bad1 w r ⟨by omega, h1⟩
  by_cases h2 : r.C < 0
  · exact check_bad2 w r ⟨by omega, by omega, h2⟩
  by_cases h3 : 14 ≤ r.C
  · exact check_bad3 w r ⟨by omega, by omega, by omega, h3⟩
  exact check_in w tb r (by omega) (by omega) (by omega) (by omega)
end Go.Proofs.YtehnhjdjjalifaaGreatDoor
