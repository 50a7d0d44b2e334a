/- CPUAsked: S2 -/
import Derived.Test.YtbeeefekndcgnaaDoorAa
namespace Go.Proofs.YtbeeefekndcgnaaDoor
open Go Go.RowKit
set_option linter.unusedVariables false
set_option maxHeartbeats 1000000
set_option maxRecDepth 20000

theorem asked_6di (w : World) (c : Cp) (hc : c.wf) (p : Pn) (hp : p.wf) (tb : Tabs w) (hch : checkB c = true) (N : Cp) (hN : goOnM c { p with Mode := 0 } = N) (h : c.Ph = 6) (l1 : p.DI = true) (hPh : N.Ph = 6) : Calls Tryd.prog 5 #[.agg (cpC c), .agg (pnC p)] w fun e w' => e = .returned (.bool true) ∧ Below w.heap.size w w' := by
  have hA := fun v t => lawake v t
  have hM := fun v => lmay v c hc
  rw [hch] at hM
  have hS := fun v t => ystep v c hc { p with Mode := 0 } (pn_wf0 hp) t
  rw [step_run p hch, hN] at hS
  have hD := fun v t => ydrive v c hc t 0 (by decide)
  have zz := zeroVC
  have zd := zeroVD
  have tb' : Hid (Tabs w) := tb
  have hF : Hid (Fm w [(w.heap.size, cpC c, 26), (w.heap.size + 1, pnC p, 30)] ((w.alloc (.cells (cpC c) 26)).alloc (.cells (pnC p) 30))) := Fm.two w c p
  obtain ⟨o, ho⟩ : ∃ o : Int, (c.Op : Int) = o := ⟨_, rfl⟩
  have hph : (c.Ph : Int) = 6 := by omega
  have n1 : (N.Ph : Int) = 6 := by omega
  have hDe : driveM c 0 = (⟨2, c.R 0, false, true, false, 0, 0, true⟩ : Dv) := by unfold driveM runM; rw [if_pos hch]; simp only [h]; rfl
  rw [hDe] at hD
  have hNe : Hid (cpC N = cpC { c.up 0 with Ph := N.Ph }) := by rw [show (Hid (cpC N = cpC { c.up 0 with Ph := N.Ph })) = (cpC N = cpC { c.up 0 with Ph := N.Ph }) from rfl, ← hN]; unfold goOnM; simp only [h]
  obtain ⟨D, hDD⟩ : ∃ D : Dv, (⟨2, c.R 0, false, true, false, 0, 0, true⟩ : Dv) = D := ⟨_, rfl⟩
  rw [hDD] at hD
  have hbD : Hid (Tryd.prog.built 37 [(0, .int .u8 2), (1, .int .u16 (c.R 0)), (2, .bool false), (3, .bool true), (7, .bool true)] = some (dvC D)) := by rw [← hDD]; exact (by kernel_rfl : Tryd.prog.built 37 [(0, .int .u8 2), (1, .int .u16 (c.R 0)), (2, .bool false), (3, .bool true), (7, .bool true)] = some (dvC (⟨2, c.R 0, false, true, false, 0, 0, true⟩ : Dv)))
  replace ho : Hid _ := ho
  replace hph : Hid _ := hph
  replace n1 : Hid _ := n1
  replace l1 : Hid _ := l1
  clear hc hp tb hch hN h hPh hDe hDD
  go_enter Tryd.func5, Tryd.ntmps5
  go_wp2_with (first
    | (refine gen_world ((w.alloc (.cells (cpC c) 26)).alloc (.cells (pnC p) 30)) (Fm w [(w.heap.size, cpC c, 26), (w.heap.size + 1, pnC p, 30)]) hF.out ?_; intro y K0)
    | (go_at_call 12; refine (hA _ (tb'.out.below K0.out.low)).mono ?_; rintro e v1 ⟨rfl, hb1⟩; have K1 : Hid _ := K0.out.below hb1)
    | (go_at_call 8; refine (hM _).mono ?_; rintro e v2 ⟨rfl, hb2⟩; have K2 : Hid _ := K1.out.below hb2; have dM := BoxP.fMode (K2.out.get 1 _ _ _ rfl); have fM := frozen_heap (K2.out.get 1 _ _ _ rfl) 0; have K3 : Hid (Fm w [(w.heap.size, cpC c, 26), (w.heap.size + 1, pnC { p with Mode := 0 }, 30)] (v2.setCell ⟨w.heap.size + 1, 0, none⟩ (.int .u8 0))) := K2.out.setCell 1 _ _ _ _ rfl 0 _ rfl)
    | (refine gen_world (v2.setCell ⟨w.heap.size + 1, 0, none⟩ (.int .u8 0)) (Fm w [(w.heap.size, cpC c, 26), (w.heap.size + 1, pnC { p with Mode := 0 }, 30)]) K3.out ?_; intro y3 K4)
    | (go_at_call 10; refine (hS _ (tb'.out.below K4.out.low)).mono ?_; rintro e v4 ⟨rfl, hb4⟩; have K5 : Hid _ := K4.out.below hb4)
    | (refine gen_world (v4.alloc (.cells (cpC zeroC) 26)) (Fm w [(w.heap.size, cpC c, 26), (w.heap.size + 1, pnC { p with Mode := 0 }, 30), (v4.heap.size, cpC zeroC, 26)]) (K5.out.new _ _) ?_; intro y5 K55)
    | (refine at_storeC v4.heap.size zeroC N (K55.out.get 2 _ _ _ rfl) _ _ rfl rfl rfl rfl ?_; intro y6 hw6; have K6 : Hid (Fm w [(w.heap.size, cpC c, 26), (w.heap.size + 1, pnC { p with Mode := 0 }, 30), (v4.heap.size, cpC N, 26)] y6) := K55.out.put 2 _ _ _ _ rfl hw6.out; have d25 := BoxC.fPh (K6.out.get 0 _ _ _ rfl); have d23 := BoxC.fOp (K6.out.get 0 _ _ _ rfl); rw [ho.out] at d23; have n25 := BoxC.fPh (K6.out.get 2 _ _ _ rfl); have n21 := BoxC.fIE (K6.out.get 2 _ _ _ rfl); have n23 := BoxC.fOp (K6.out.get 2 _ _ _ rfl); have p1 : y6.cell? ⟨w.heap.size + 1, 1, none⟩ = some (.int .u8 p.Data) := BoxP.fData (p := { p with Mode := 0 }) (K6.out.get 1 _ _ _ rfl); have p6 : y6.cell? ⟨w.heap.size + 1, 6, none⟩ = some (.bool p.DI) := BoxP.fDI (p := { p with Mode := 0 }) (K6.out.get 1 _ _ _ rfl); have p7 : y6.cell? ⟨w.heap.size + 1, 7, none⟩ = some (.bool p.DO) := BoxP.fDO (p := { p with Mode := 0 }) (K6.out.get 1 _ _ _ rfl); have p8 : y6.cell? ⟨w.heap.size + 1, 8, none⟩ = some (.bool p.Int_) := BoxP.fInt (p := { p with Mode := 0 }) (K6.out.get 1 _ _ _ rfl); rw [hph.out] at d25)
    | (go_at_call 11; refine (hD _ (tb'.out.below K6.out.low)).mono ?_; rintro e v7 ⟨rfl, hb7⟩; have K7 : Hid _ := K6.out.below hb7)
    | (refine gen_world (v7.alloc (.cells (dvC zeroD) 37)) (Fm w [(w.heap.size, cpC c, 26), (w.heap.size + 1, pnC { p with Mode := 0 }, 30), (v4.heap.size, cpC N, 26), (v7.heap.size, dvC zeroD, 37)]) (K7.out.new _ _) ?_; intro y8 K8)
    | (refine at_storeD v7.heap.size zeroD D (K8.out.get 3 _ _ _ rfl) _ _ rfl rfl rfl rfl ?_; intro y9 hw9; have K9 : Hid (Fm w [(w.heap.size, cpC c, 26), (w.heap.size + 1, pnC { p with Mode := 0 }, 30), (v4.heap.size, cpC N, 26), (v7.heap.size, dvC D, 37)] y9) := K8.out.put 3 _ _ _ _ rfl hw9.out)
    | (refine gen_world (y9.alloc (.cells (cpC zeroC) 26)) (Fm w [(w.heap.size, cpC c, 26), (w.heap.size + 1, pnC { p with Mode := 0 }, 30), (v4.heap.size, cpC N, 26), (v7.heap.size, dvC D, 37), (y9.heap.size, cpC zeroC, 26)]) (K9.out.new _ _) ?_; intro y10 K10)
    | (refine at_storeC y9.heap.size zeroC c (K10.out.get 4 _ _ _ rfl) _ _ rfl rfl rfl rfl ?_; intro y11 hw11; have K11 : Hid (Fm w [(w.heap.size, cpC c, 26), (w.heap.size + 1, pnC { p with Mode := 0 }, 30), (v4.heap.size, cpC N, 26), (v7.heap.size, dvC D, 37), (y9.heap.size, cpC c, 26)] y11) := K10.out.put 4 _ _ _ _ rfl hw11.out; have c0 := BoxC.r (K11.out.get 0 _ _ _ rfl) 0 (by decide); have x0 := BoxC.r (K11.out.get 4 _ _ _ rfl) 0 (by decide); have f0 := frozen_heap (K11.out.get 4 _ _ _ rfl) 0; have K12 : Hid (Fm w [(w.heap.size, cpC c, 26), (w.heap.size + 1, pnC { p with Mode := 0 }, 30), (v4.heap.size, cpC N, 26), (v7.heap.size, dvC D, 37), (y9.heap.size, cpC (c.up 0), 26)] (y11.setCell ⟨y9.heap.size, 0, none⟩ (.int .u16 (IntKind.u16.wrap (c.R 0 + 1))))) := K11.out.setCell 4 _ _ _ _ rfl 0 _ (cpC_up c 0 (by decide)))
    | (refine gen_world (y11.setCell ⟨y9.heap.size, 0, none⟩ (.int .u16 (IntKind.u16.wrap (c.R 0 + 1)))) (Fm w [(w.heap.size, cpC c, 26), (w.heap.size + 1, pnC { p with Mode := 0 }, 30), (v4.heap.size, cpC N, 26), (v7.heap.size, dvC D, 37), (y9.heap.size, cpC (c.up 0), 26)]) K12.out ?_; intro y12 K13; have m25 := BoxC.fPh (K13.out.get 2 _ _ _ rfl); have x25 := BoxC.fPh (K13.out.get 4 _ _ _ rfl); have f25 := frozen_heap (K13.out.get 4 _ _ _ rfl) 25; have K14 : Hid (Fm w [(w.heap.size, cpC c, 26), (w.heap.size + 1, pnC { p with Mode := 0 }, 30), (v4.heap.size, cpC N, 26), (v7.heap.size, dvC D, 37), (y9.heap.size, cpC { c.up 0 with Ph := N.Ph }, 26)] (y12.setCell ⟨y9.heap.size, 25, none⟩ (.int .u8 (N.Ph : Int)))) := K13.out.setCell 4 _ _ _ _ rfl 25 _ (cpC_setPh (c.up 0) N.Ph))
    | (refine gen_world (y12.setCell ⟨y9.heap.size, 25, none⟩ (.int .u8 (N.Ph : Int))) (Fm w [(w.heap.size, cpC c, 26), (w.heap.size + 1, pnC { p with Mode := 0 }, 30), (v4.heap.size, cpC N, 26), (v7.heap.size, dvC D, 37), (y9.heap.size, cpC { c.up 0 with Ph := N.Ph }, 26)]) K14.out ?_; intro y14 K15; have c0' := BoxC.r (K15.out.get 0 _ _ _ rfl) 0 (by decide); have c25 := BoxC.fPh (K15.out.get 0 _ _ _ rfl); rw [hph.out] at c25; have c23 := BoxC.fOp (K15.out.get 0 _ _ _ rfl); rw [ho.out] at c23; have k25 := BoxC.fPh (K15.out.get 2 _ _ _ rfl); rw [n1.out] at k25; have k21 := BoxC.fIE (K15.out.get 2 _ _ _ rfl); have r6 : y14.cell? ⟨w.heap.size + 1, 6, none⟩ = some (.bool p.DI) := BoxP.fDI (p := { p with Mode := 0 }) (K15.out.get 1 _ _ _ rfl); have r7 : y14.cell? ⟨w.heap.size + 1, 7, none⟩ = some (.bool p.DO) := BoxP.fDO (p := { p with Mode := 0 }) (K15.out.get 1 _ _ _ rfl); have r8 : y14.cell? ⟨w.heap.size + 1, 8, none⟩ = some (.bool p.Int_) := BoxP.fInt (p := { p with Mode := 0 }) (K15.out.get 1 _ _ _ rfl); rw [l1.out] at r6; refine stopAt ?_)
    | (refine at_loadC w.heap.size c (K9.out.get 0 _ _ _ rfl) _ rfl rfl rfl ?_)
    | (refine at_loadC w.heap.size c (K6.out.get 0 _ _ _ rfl) _ rfl rfl rfl ?_)
    | (refine at_loadC w.heap.size c (K4.out.get 0 _ _ _ rfl) _ rfl rfl rfl ?_)
    | (refine at_loadP (w.heap.size + 1) _ (K4.out.get 1 _ _ _ rfl) _ rfl rfl rfl ?_)
    | (refine at_loadC w.heap.size c (K1.out.get 0 _ _ _ rfl) _ rfl rfl rfl ?_))
  refine Stop.go ?_
  refine at_loadC v4.heap.size N (K15.out.get 2 _ _ _ rfl) _ rfl rfl rfl ?_
  try simp only [Act.put, List.setIfInBounds_toArray, List.set_cons_zero, List.set_cons_succ]
  refine at_loadC y9.heap.size _ (K15.out.get 4 _ _ _ rfl) _ rfl rfl rfl ?_
  try simp only [Act.put, List.setIfInBounds_toArray, List.set_cons_zero, List.set_cons_succ]
  refine at_neC N _ hNe.out _ _ _ rfl rfl rfl rfl ?_
  try simp only [Act.put, List.setIfInBounds_toArray, List.set_cons_zero, List.set_cons_succ]
  with_reducible refine at_op (.bool false) ?_ ?_ ?_
  · kernel_rfl
  · go_simp
  try simp only [Act.put, List.setIfInBounds_toArray, List.set_cons_zero, List.set_cons_succ]
  with_reducible refine at_loadDg v7.heap.size D ?_ (.tmp 8) ?_ ?_ ?_ ?_
  · exact K15.out.get 3 _ _ _ rfl
  · kernel_rfl
  · rfl
  · rfl
  try simp only [Act.put, List.setIfInBounds_toArray, List.set_cons_zero, List.set_cons_succ]
  with_reducible refine at_op (.pointer (some ⟨w.heap.size, 0, none⟩)) ?_ ?_ ?_
  · kernel_rfl
  · go_simp
  try simp only [Act.put, List.setIfInBounds_toArray, List.set_cons_zero, List.set_cons_succ]
  with_reducible refine at_op (.pointer (some ⟨w.heap.size, 0, none⟩)) ?_ ?_ ?_
  · kernel_rfl
  · go_simp
  try simp only [Act.put, List.setIfInBounds_toArray, List.set_cons_zero, List.set_cons_succ]
  with_reducible refine at_op (.int .u16 (c.R 0)) ?_ ?_ ?_
  · kernel_rfl
  · go_simp
  try simp only [Act.put, List.setIfInBounds_toArray, List.set_cons_zero, List.set_cons_succ]
  with_reducible refine at_op (.pointer (some ⟨w.heap.size, 25, none⟩)) ?_ ?_ ?_
  · kernel_rfl
  · go_simp
  try simp only [Act.put, List.setIfInBounds_toArray, List.set_cons_zero, List.set_cons_succ]
  with_reducible refine at_op (.int .u8 6) ?_ ?_ ?_
  · kernel_rfl
  · go_simp
  try simp only [Act.put, List.setIfInBounds_toArray, List.set_cons_zero, List.set_cons_succ]
  with_reducible refine at_op (.bool false) ?_ ?_ ?_
  · kernel_rfl
  · go_simp
  try simp only [Act.put, List.setIfInBounds_toArray, List.set_cons_zero, List.set_cons_succ]
  with_reducible refine at_op (.pointer (some ⟨w.heap.size, 25, none⟩)) ?_ ?_ ?_
  · kernel_rfl
  · go_simp
  try simp only [Act.put, List.setIfInBounds_toArray, List.set_cons_zero, List.set_cons_succ]
  with_reducible refine at_op (.int .u8 6) ?_ ?_ ?_
  · kernel_rfl
  · go_simp
  try simp only [Act.put, List.setIfInBounds_toArray, List.set_cons_zero, List.set_cons_succ]
  with_reducible refine at_op (.bool true) ?_ ?_ ?_
  · kernel_rfl
  · go_simp
  try simp only [Act.put, List.setIfInBounds_toArray, List.set_cons_zero, List.set_cons_succ]
  with_reducible refine wantD #[(0, .const (.int .u8 2)), (1, .tmp 54), (2, .tmp 57), (3, .tmp 60), (7, .const (.bool true))] [(0, .int .u8 2), (1, .int .u16 (c.R 0)), (2, .bool false), (3, .bool true), (7, .bool true)] D ?_ ?_ ?_ hbD.out (some 61) ?_ ?_
  · kernel_rfl
  · rfl
  · first | (simp [Act.eval]; done) | (go_simp; done)
  · rfl
  try simp only [Act.put, List.setIfInBounds_toArray, List.set_cons_zero, List.set_cons_succ]
  with_reducible refine at_neD D D rfl (.tmp 51) (.tmp 61) 37 ?_ ?_ ?_ ?_ ?_
  · kernel_rfl
  · rfl
  · rfl
  · rfl
  try simp only [Act.put, List.setIfInBounds_toArray, List.set_cons_zero, List.set_cons_succ]
  with_reducible refine at_op (.bool false) ?_ ?_ ?_
  · kernel_rfl
  · go_simp
  try simp only [Act.put, List.setIfInBounds_toArray, List.set_cons_zero, List.set_cons_succ]
  go_wp2
  all_goals go_ret
  all_goals exact ⟨by first | rfl | simp, K15.out.low⟩

theorem asked_6do (w : World) (c : Cp) (hc : c.wf) (p : Pn) (hp : p.wf) (tb : Tabs w) (hch : checkB c = true) (N : Cp) (hN : goOnM c { p with Mode := 0 } = N) (h : c.Ph = 6) (l1 : p.DI = false) (l2 : p.DO = true) (hPh : N.Ph = 7) : Calls Tryd.prog 5 #[.agg (cpC c), .agg (pnC p)] w fun e w' => e = .returned (.bool true) ∧ Below w.heap.size w w' := by
  have hA := fun v t => lawake v t
  have hM := fun v => lmay v c hc
  rw [hch] at hM
  have hS := fun v t => ystep v c hc { p with Mode := 0 } (pn_wf0 hp) t
  rw [step_run p hch, hN] at hS
  have hD := fun v t => ydrive v c hc t 0 (by decide)
  have zz := zeroVC
  have zd := zeroVD
  have tb' : Hid (Tabs w) := tb
  have hF : Hid (Fm w [(w.heap.size, cpC c, 26), (w.heap.size + 1, pnC p, 30)] ((w.alloc (.cells (cpC c) 26)).alloc (.cells (pnC p) 30))) := Fm.two w c p
  obtain ⟨o, ho⟩ : ∃ o : Int, (c.Op : Int) = o := ⟨_, rfl⟩
  have hph : (c.Ph : Int) = 6 := by omega
  have n1 : (N.Ph : Int) = 7 := by omega
  have hDe : driveM c 0 = (⟨2, c.R 0, false, true, false, 0, 0, true⟩ : Dv) := by unfold driveM runM; rw [if_pos hch]; simp only [h]; rfl
  rw [hDe] at hD
  have hNe : Hid (cpC N = cpC { c.up 0 with Ph := N.Ph }) := by rw [show (Hid (cpC N = cpC { c.up 0 with Ph := N.Ph })) = (cpC N = cpC { c.up 0 with Ph := N.Ph }) from rfl, ← hN]; unfold goOnM; simp only [h]
  obtain ⟨D, hDD⟩ : ∃ D : Dv, (⟨2, c.R 0, false, true, false, 0, 0, true⟩ : Dv) = D := ⟨_, rfl⟩
  rw [hDD] at hD
  have hbD : Hid (Tryd.prog.built 37 [(0, .int .u8 2), (1, .int .u16 (c.R 0)), (2, .bool false), (3, .bool true), (7, .bool true)] = some (dvC D)) := by rw [← hDD]; exact (by kernel_rfl : Tryd.prog.built 37 [(0, .int .u8 2), (1, .int .u16 (c.R 0)), (2, .bool false), (3, .bool true), (7, .bool true)] = some (dvC (⟨2, c.R 0, false, true, false, 0, 0, true⟩ : Dv)))
  replace ho : Hid _ := ho
  replace hph : Hid _ := hph
  replace n1 : Hid _ := n1
  replace l1 : Hid _ := l1
  replace l2 : Hid _ := l2
  clear hc hp tb hch hN h hPh hDe hDD
  go_enter Tryd.func5, Tryd.ntmps5
  go_wp2_with (first
    | (refine gen_world ((w.alloc (.cells (cpC c) 26)).alloc (.cells (pnC p) 30)) (Fm w [(w.heap.size, cpC c, 26), (w.heap.size + 1, pnC p, 30)]) hF.out ?_; intro y K0)
    | (go_at_call 12; refine (hA _ (tb'.out.below K0.out.low)).mono ?_; rintro e v1 ⟨rfl, hb1⟩; have K1 : Hid _ := K0.out.below hb1)
    | (go_at_call 8; refine (hM _).mono ?_; rintro e v2 ⟨rfl, hb2⟩; have K2 : Hid _ := K1.out.below hb2; have dM := BoxP.fMode (K2.out.get 1 _ _ _ rfl); have fM := frozen_heap (K2.out.get 1 _ _ _ rfl) 0; have K3 : Hid (Fm w [(w.heap.size, cpC c, 26), (w.heap.size + 1, pnC { p with Mode := 0 }, 30)] (v2.setCell ⟨w.heap.size + 1, 0, none⟩ (.int .u8 0))) := K2.out.setCell 1 _ _ _ _ rfl 0 _ rfl)
    | (refine gen_world (v2.setCell ⟨w.heap.size + 1, 0, none⟩ (.int .u8 0)) (Fm w [(w.heap.size, cpC c, 26), (w.heap.size + 1, pnC { p with Mode := 0 }, 30)]) K3.out ?_; intro y3 K4)
    | (go_at_call 10; refine (hS _ (tb'.out.below K4.out.low)).mono ?_; rintro e v4 ⟨rfl, hb4⟩; have K5 : Hid _ := K4.out.below hb4)
    | (refine gen_world (v4.alloc (.cells (cpC zeroC) 26)) (Fm w [(w.heap.size, cpC c, 26), (w.heap.size + 1, pnC { p with Mode := 0 }, 30), (v4.heap.size, cpC zeroC, 26)]) (K5.out.new _ _) ?_; intro y5 K55)
    | (refine at_storeC v4.heap.size zeroC N (K55.out.get 2 _ _ _ rfl) _ _ rfl rfl rfl rfl ?_; intro y6 hw6; have K6 : Hid (Fm w [(w.heap.size, cpC c, 26), (w.heap.size + 1, pnC { p with Mode := 0 }, 30), (v4.heap.size, cpC N, 26)] y6) := K55.out.put 2 _ _ _ _ rfl hw6.out; have d25 := BoxC.fPh (K6.out.get 0 _ _ _ rfl); have d23 := BoxC.fOp (K6.out.get 0 _ _ _ rfl); rw [ho.out] at d23; have n25 := BoxC.fPh (K6.out.get 2 _ _ _ rfl); have n21 := BoxC.fIE (K6.out.get 2 _ _ _ rfl); have n23 := BoxC.fOp (K6.out.get 2 _ _ _ rfl); have p1 : y6.cell? ⟨w.heap.size + 1, 1, none⟩ = some (.int .u8 p.Data) := BoxP.fData (p := { p with Mode := 0 }) (K6.out.get 1 _ _ _ rfl); have p6 : y6.cell? ⟨w.heap.size + 1, 6, none⟩ = some (.bool p.DI) := BoxP.fDI (p := { p with Mode := 0 }) (K6.out.get 1 _ _ _ rfl); have p7 : y6.cell? ⟨w.heap.size + 1, 7, none⟩ = some (.bool p.DO) := BoxP.fDO (p := { p with Mode := 0 }) (K6.out.get 1 _ _ _ rfl); have p8 : y6.cell? ⟨w.heap.size + 1, 8, none⟩ = some (.bool p.Int_) := BoxP.fInt (p := { p with Mode := 0 }) (K6.out.get 1 _ _ _ rfl); rw [hph.out] at d25)
    | (go_at_call 11; refine (hD _ (tb'.out.below K6.out.low)).mono ?_; rintro e v7 ⟨rfl, hb7⟩; have K7 : Hid _ := K6.out.below hb7)
    | (refine gen_world (v7.alloc (.cells (dvC zeroD) 37)) (Fm w [(w.heap.size, cpC c, 26), (w.heap.size + 1, pnC { p with Mode := 0 }, 30), (v4.heap.size, cpC N, 26), (v7.heap.size, dvC zeroD, 37)]) (K7.out.new _ _) ?_; intro y8 K8)
    | (refine at_storeD v7.heap.size zeroD D (K8.out.get 3 _ _ _ rfl) _ _ rfl rfl rfl rfl ?_; intro y9 hw9; have K9 : Hid (Fm w [(w.heap.size, cpC c, 26), (w.heap.size + 1, pnC { p with Mode := 0 }, 30), (v4.heap.size, cpC N, 26), (v7.heap.size, dvC D, 37)] y9) := K8.out.put 3 _ _ _ _ rfl hw9.out)
    | (refine gen_world (y9.alloc (.cells (cpC zeroC) 26)) (Fm w [(w.heap.size, cpC c, 26), (w.heap.size + 1, pnC { p with Mode := 0 }, 30), (v4.heap.size, cpC N, 26), (v7.heap.size, dvC D, 37), (y9.heap.size, cpC zeroC, 26)]) (K9.out.new _ _) ?_; intro y10 K10)
    | (refine at_storeC y9.heap.size zeroC c (K10.out.get 4 _ _ _ rfl) _ _ rfl rfl rfl rfl ?_; intro y11 hw11; have K11 : Hid (Fm w [(w.heap.size, cpC c, 26), (w.heap.size + 1, pnC { p with Mode := 0 }, 30), (v4.heap.size, cpC N, 26), (v7.heap.size, dvC D, 37), (y9.heap.size, cpC c, 26)] y11) := K10.out.put 4 _ _ _ _ rfl hw11.out; have c0 := BoxC.r (K11.out.get 0 _ _ _ rfl) 0 (by decide); have x0 := BoxC.r (K11.out.get 4 _ _ _ rfl) 0 (by decide); have f0 := frozen_heap (K11.out.get 4 _ _ _ rfl) 0; have K12 : Hid (Fm w [(w.heap.size, cpC c, 26), (w.heap.size + 1, pnC { p with Mode := 0 }, 30), (v4.heap.size, cpC N, 26), (v7.heap.size, dvC D, 37), (y9.heap.size, cpC (c.up 0), 26)] (y11.setCell ⟨y9.heap.size, 0, none⟩ (.int .u16 (IntKind.u16.wrap (c.R 0 + 1))))) := K11.out.setCell 4 _ _ _ _ rfl 0 _ (cpC_up c 0 (by decide)))
    | (refine gen_world (y11.setCell ⟨y9.heap.size, 0, none⟩ (.int .u16 (IntKind.u16.wrap (c.R 0 + 1)))) (Fm w [(w.heap.size, cpC c, 26), (w.heap.size + 1, pnC { p with Mode := 0 }, 30), (v4.heap.size, cpC N, 26), (v7.heap.size, dvC D, 37), (y9.heap.size, cpC (c.up 0), 26)]) K12.out ?_; intro y12 K13; have m25 := BoxC.fPh (K13.out.get 2 _ _ _ rfl); have x25 := BoxC.fPh (K13.out.get 4 _ _ _ rfl); have f25 := frozen_heap (K13.out.get 4 _ _ _ rfl) 25; have K14 : Hid (Fm w [(w.heap.size, cpC c, 26), (w.heap.size + 1, pnC { p with Mode := 0 }, 30), (v4.heap.size, cpC N, 26), (v7.heap.size, dvC D, 37), (y9.heap.size, cpC { c.up 0 with Ph := N.Ph }, 26)] (y12.setCell ⟨y9.heap.size, 25, none⟩ (.int .u8 (N.Ph : Int)))) := K13.out.setCell 4 _ _ _ _ rfl 25 _ (cpC_setPh (c.up 0) N.Ph))
    | (refine gen_world (y12.setCell ⟨y9.heap.size, 25, none⟩ (.int .u8 (N.Ph : Int))) (Fm w [(w.heap.size, cpC c, 26), (w.heap.size + 1, pnC { p with Mode := 0 }, 30), (v4.heap.size, cpC N, 26), (v7.heap.size, dvC D, 37), (y9.heap.size, cpC { c.up 0 with Ph := N.Ph }, 26)]) K14.out ?_; intro y14 K15; have c0' := BoxC.r (K15.out.get 0 _ _ _ rfl) 0 (by decide); have c25 := BoxC.fPh (K15.out.get 0 _ _ _ rfl); rw [hph.out] at c25; have c23 := BoxC.fOp (K15.out.get 0 _ _ _ rfl); rw [ho.out] at c23; have k25 := BoxC.fPh (K15.out.get 2 _ _ _ rfl); rw [n1.out] at k25; have k21 := BoxC.fIE (K15.out.get 2 _ _ _ rfl); have r6 : y14.cell? ⟨w.heap.size + 1, 6, none⟩ = some (.bool p.DI) := BoxP.fDI (p := { p with Mode := 0 }) (K15.out.get 1 _ _ _ rfl); have r7 : y14.cell? ⟨w.heap.size + 1, 7, none⟩ = some (.bool p.DO) := BoxP.fDO (p := { p with Mode := 0 }) (K15.out.get 1 _ _ _ rfl); have r8 : y14.cell? ⟨w.heap.size + 1, 8, none⟩ = some (.bool p.Int_) := BoxP.fInt (p := { p with Mode := 0 }) (K15.out.get 1 _ _ _ rfl); rw [l1.out] at r6; rw [l2.out] at r7; refine stopAt ?_)
    | (refine at_loadC w.heap.size c (K9.out.get 0 _ _ _ rfl) _ rfl rfl rfl ?_)
    | (refine at_loadC w.heap.size c (K6.out.get 0 _ _ _ rfl) _ rfl rfl rfl ?_)
    | (refine at_loadC w.heap.size c (K4.out.get 0 _ _ _ rfl) _ rfl rfl rfl ?_)
    | (refine at_loadP (w.heap.size + 1) _ (K4.out.get 1 _ _ _ rfl) _ rfl rfl rfl ?_)
    | (refine at_loadC w.heap.size c (K1.out.get 0 _ _ _ rfl) _ rfl rfl rfl ?_))
  refine Stop.go ?_
  refine at_loadC v4.heap.size N (K15.out.get 2 _ _ _ rfl) _ rfl rfl rfl ?_
  try simp only [Act.put, List.setIfInBounds_toArray, List.set_cons_zero, List.set_cons_succ]
  refine at_loadC y9.heap.size _ (K15.out.get 4 _ _ _ rfl) _ rfl rfl rfl ?_
  try simp only [Act.put, List.setIfInBounds_toArray, List.set_cons_zero, List.set_cons_succ]
  refine at_neC N _ hNe.out _ _ _ rfl rfl rfl rfl ?_
  try simp only [Act.put, List.setIfInBounds_toArray, List.set_cons_zero, List.set_cons_succ]
  with_reducible refine at_op (.bool false) ?_ ?_ ?_
  · kernel_rfl
  · go_simp
  try simp only [Act.put, List.setIfInBounds_toArray, List.set_cons_zero, List.set_cons_succ]
  with_reducible refine at_loadDg v7.heap.size D ?_ (.tmp 8) ?_ ?_ ?_ ?_
  · exact K15.out.get 3 _ _ _ rfl
  · kernel_rfl
  · rfl
  · rfl
  try simp only [Act.put, List.setIfInBounds_toArray, List.set_cons_zero, List.set_cons_succ]
  with_reducible refine at_op (.pointer (some ⟨w.heap.size, 0, none⟩)) ?_ ?_ ?_
  · kernel_rfl
  · go_simp
  try simp only [Act.put, List.setIfInBounds_toArray, List.set_cons_zero, List.set_cons_succ]
  with_reducible refine at_op (.pointer (some ⟨w.heap.size, 0, none⟩)) ?_ ?_ ?_
  · kernel_rfl
  · go_simp
  try simp only [Act.put, List.setIfInBounds_toArray, List.set_cons_zero, List.set_cons_succ]
  with_reducible refine at_op (.int .u16 (c.R 0)) ?_ ?_ ?_
  · kernel_rfl
  · go_simp
  try simp only [Act.put, List.setIfInBounds_toArray, List.set_cons_zero, List.set_cons_succ]
  with_reducible refine at_op (.pointer (some ⟨w.heap.size, 25, none⟩)) ?_ ?_ ?_
  · kernel_rfl
  · go_simp
  try simp only [Act.put, List.setIfInBounds_toArray, List.set_cons_zero, List.set_cons_succ]
  with_reducible refine at_op (.int .u8 6) ?_ ?_ ?_
  · kernel_rfl
  · go_simp
  try simp only [Act.put, List.setIfInBounds_toArray, List.set_cons_zero, List.set_cons_succ]
  with_reducible refine at_op (.bool false) ?_ ?_ ?_
  · kernel_rfl
  · go_simp
  try simp only [Act.put, List.setIfInBounds_toArray, List.set_cons_zero, List.set_cons_succ]
  with_reducible refine at_op (.pointer (some ⟨w.heap.size, 25, none⟩)) ?_ ?_ ?_
  · kernel_rfl
  · go_simp
  try simp only [Act.put, List.setIfInBounds_toArray, List.set_cons_zero, List.set_cons_succ]
  with_reducible refine at_op (.int .u8 6) ?_ ?_ ?_
  · kernel_rfl
  · go_simp
  try simp only [Act.put, List.setIfInBounds_toArray, List.set_cons_zero, List.set_cons_succ]
  with_reducible refine at_op (.bool true) ?_ ?_ ?_
  · kernel_rfl
  · go_simp
  try simp only [Act.put, List.setIfInBounds_toArray, List.set_cons_zero, List.set_cons_succ]
  with_reducible refine wantD #[(0, .const (.int .u8 2)), (1, .tmp 54), (2, .tmp 57), (3, .tmp 60), (7, .const (.bool true))] [(0, .int .u8 2), (1, .int .u16 (c.R 0)), (2, .bool false), (3, .bool true), (7, .bool true)] D ?_ ?_ ?_ hbD.out (some 61) ?_ ?_
  · kernel_rfl
  · rfl
  · first | (simp [Act.eval]; done) | (go_simp; done)
  · rfl
  try simp only [Act.put, List.setIfInBounds_toArray, List.set_cons_zero, List.set_cons_succ]
  with_reducible refine at_neD D D rfl (.tmp 51) (.tmp 61) 37 ?_ ?_ ?_ ?_ ?_
  · kernel_rfl
  · rfl
  · rfl
  · rfl
  try simp only [Act.put, List.setIfInBounds_toArray, List.set_cons_zero, List.set_cons_succ]
  with_reducible refine at_op (.bool false) ?_ ?_ ?_
  · kernel_rfl
  · go_simp
  try simp only [Act.put, List.setIfInBounds_toArray, List.set_cons_zero, List.set_cons_succ]
  go_wp2
  all_goals go_ret
  all_goals exact ⟨by first | rfl | simp, K15.out.low⟩

theorem asked_6in (w : World) (c : Cp) (hc : c.wf) (p : Pn) (hp : p.wf) (tb : Tabs w) (hch : checkB c = true) (N : Cp) (hN : goOnM c { p with Mode := 0 } = N) (h : c.Ph = 6) (l1 : p.DI = false) (l2 : p.DO = false) (l3 : p.Int_ = true) (l4 : N.IE = true) (hPh : N.Ph = 8) : Calls Tryd.prog 5 #[.agg (cpC c), .agg (pnC p)] w fun e w' => e = .returned (.bool true) ∧ Below w.heap.size w w' := by
  have hA := fun v t => lawake v t
  have hM := fun v => lmay v c hc
  rw [hch] at hM
  have hS := fun v t => ystep v c hc { p with Mode := 0 } (pn_wf0 hp) t
  rw [step_run p hch, hN] at hS
  have hD := fun v t => ydrive v c hc t 0 (by decide)
  have zz := zeroVC
  have zd := zeroVD
  have tb' : Hid (Tabs w) := tb
  have hF : Hid (Fm w [(w.heap.size, cpC c, 26), (w.heap.size + 1, pnC p, 30)] ((w.alloc (.cells (cpC c) 26)).alloc (.cells (pnC p) 30))) := Fm.two w c p
  obtain ⟨o, ho⟩ : ∃ o : Int, (c.Op : Int) = o := ⟨_, rfl⟩
  have hph : (c.Ph : Int) = 6 := by omega
  have n1 : (N.Ph : Int) = 8 := by omega
  have hDe : driveM c 0 = (⟨2, c.R 0, false, true, false, 0, 0, true⟩ : Dv) := by unfold driveM runM; rw [if_pos hch]; simp only [h]; rfl
  rw [hDe] at hD
  have hNe : Hid (cpC N = cpC { c.up 0 with Ph := N.Ph }) := by rw [show (Hid (cpC N = cpC { c.up 0 with Ph := N.Ph })) = (cpC N = cpC { c.up 0 with Ph := N.Ph }) from rfl, ← hN]; unfold goOnM; simp only [h]
  obtain ⟨D, hDD⟩ : ∃ D : Dv, (⟨2, c.R 0, false, true, false, 0, 0, true⟩ : Dv) = D := ⟨_, rfl⟩
  rw [hDD] at hD
  have hbD : Hid (Tryd.prog.built 37 [(0, .int .u8 2), (1, .int .u16 (c.R 0)), (2, .bool false), (3, .bool true), (7, .bool true)] = some (dvC D)) := by rw [← hDD]; exact (by kernel_rfl : Tryd.prog.built 37 [(0, .int .u8 2), (1, .int .u16 (c.R 0)), (2, .bool false), (3, .bool true), (7, .bool true)] = some (dvC (⟨2, c.R 0, false, true, false, 0, 0, true⟩ : Dv)))
  replace ho : Hid _ := ho
  replace hph : Hid _ := hph
  replace n1 : Hid _ := n1
  replace l1 : Hid _ := l1
  replace l2 : Hid _ := l2
  replace l3 : Hid _ := l3
  replace l4 : Hid _ := l4
  clear hc hp tb hch hN h hPh hDe hDD
  go_enter Tryd.func5, Tryd.ntmps5
  go_wp2_with (first
    | (refine gen_world ((w.alloc (.cells (cpC c) 26)).alloc (.cells (pnC p) 30)) (Fm w [(w.heap.size, cpC c, 26), (w.heap.size + 1, pnC p, 30)]) hF.out ?_; intro y K0)
    | (go_at_call 12; refine (hA _ (tb'.out.below K0.out.low)).mono ?_; rintro e v1 ⟨rfl, hb1⟩; have K1 : Hid _ := K0.out.below hb1)
    | (go_at_call 8; refine (hM _).mono ?_; rintro e v2 ⟨rfl, hb2⟩; have K2 : Hid _ := K1.out.below hb2; have dM := BoxP.fMode (K2.out.get 1 _ _ _ rfl); have fM := frozen_heap (K2.out.get 1 _ _ _ rfl) 0; have K3 : Hid (Fm w [(w.heap.size, cpC c, 26), (w.heap.size + 1, pnC { p with Mode := 0 }, 30)] (v2.setCell ⟨w.heap.size + 1, 0, none⟩ (.int .u8 0))) := K2.out.setCell 1 _ _ _ _ rfl 0 _ rfl)
    | (refine gen_world (v2.setCell ⟨w.heap.size + 1, 0, none⟩ (.int .u8 0)) (Fm w [(w.heap.size, cpC c, 26), (w.heap.size + 1, pnC { p with Mode := 0 }, 30)]) K3.out ?_; intro y3 K4)
    | (go_at_call 10; refine (hS _ (tb'.out.below K4.out.low)).mono ?_; rintro e v4 ⟨rfl, hb4⟩; have K5 : Hid _ := K4.out.below hb4)
    | (refine gen_world (v4.alloc (.cells (cpC zeroC) 26)) (Fm w [(w.heap.size, cpC c, 26), (w.heap.size + 1, pnC { p with Mode := 0 }, 30), (v4.heap.size, cpC zeroC, 26)]) (K5.out.new _ _) ?_; intro y5 K55)
    | (refine at_storeC v4.heap.size zeroC N (K55.out.get 2 _ _ _ rfl) _ _ rfl rfl rfl rfl ?_; intro y6 hw6; have K6 : Hid (Fm w [(w.heap.size, cpC c, 26), (w.heap.size + 1, pnC { p with Mode := 0 }, 30), (v4.heap.size, cpC N, 26)] y6) := K55.out.put 2 _ _ _ _ rfl hw6.out; have d25 := BoxC.fPh (K6.out.get 0 _ _ _ rfl); have d23 := BoxC.fOp (K6.out.get 0 _ _ _ rfl); rw [ho.out] at d23; have n25 := BoxC.fPh (K6.out.get 2 _ _ _ rfl); have n21 := BoxC.fIE (K6.out.get 2 _ _ _ rfl); have n23 := BoxC.fOp (K6.out.get 2 _ _ _ rfl); have p1 : y6.cell? ⟨w.heap.size + 1, 1, none⟩ = some (.int .u8 p.Data) := BoxP.fData (p := { p with Mode := 0 }) (K6.out.get 1 _ _ _ rfl); have p6 : y6.cell? ⟨w.heap.size + 1, 6, none⟩ = some (.bool p.DI) := BoxP.fDI (p := { p with Mode := 0 }) (K6.out.get 1 _ _ _ rfl); have p7 : y6.cell? ⟨w.heap.size + 1, 7, none⟩ = some (.bool p.DO) := BoxP.fDO (p := { p with Mode := 0 }) (K6.out.get 1 _ _ _ rfl); have p8 : y6.cell? ⟨w.heap.size + 1, 8, none⟩ = some (.bool p.Int_) := BoxP.fInt (p := { p with Mode := 0 }) (K6.out.get 1 _ _ _ rfl); rw [hph.out] at d25)
    | (go_at_call 11; refine (hD _ (tb'.out.below K6.out.low)).mono ?_; rintro e v7 ⟨rfl, hb7⟩; have K7 : Hid _ := K6.out.below hb7)
    | (refine gen_world (v7.alloc (.cells (dvC zeroD) 37)) (Fm w [(w.heap.size, cpC c, 26), (w.heap.size + 1, pnC { p with Mode := 0 }, 30), (v4.heap.size, cpC N, 26), (v7.heap.size, dvC zeroD, 37)]) (K7.out.new _ _) ?_; intro y8 K8)
    | (refine at_storeD v7.heap.size zeroD D (K8.out.get 3 _ _ _ rfl) _ _ rfl rfl rfl rfl ?_; intro y9 hw9; have K9 : Hid (Fm w [(w.heap.size, cpC c, 26), (w.heap.size + 1, pnC { p with Mode := 0 }, 30), (v4.heap.size, cpC N, 26), (v7.heap.size, dvC D, 37)] y9) := K8.out.put 3 _ _ _ _ rfl hw9.out)
    | (refine gen_world (y9.alloc (.cells (cpC zeroC) 26)) (Fm w [(w.heap.size, cpC c, 26), (w.heap.size + 1, pnC { p with Mode := 0 }, 30), (v4.heap.size, cpC N, 26), (v7.heap.size, dvC D, 37), (y9.heap.size, cpC zeroC, 26)]) (K9.out.new _ _) ?_; intro y10 K10)
    | (refine at_storeC y9.heap.size zeroC c (K10.out.get 4 _ _ _ rfl) _ _ rfl rfl rfl rfl ?_; intro y11 hw11; have K11 : Hid (Fm w [(w.heap.size, cpC c, 26), (w.heap.size + 1, pnC { p with Mode := 0 }, 30), (v4.heap.size, cpC N, 26), (v7.heap.size, dvC D, 37), (y9.heap.size, cpC c, 26)] y11) := K10.out.put 4 _ _ _ _ rfl hw11.out; have c0 := BoxC.r (K11.out.get 0 _ _ _ rfl) 0 (by decide); have x0 := BoxC.r (K11.out.get 4 _ _ _ rfl) 0 (by decide); have f0 := frozen_heap (K11.out.get 4 _ _ _ rfl) 0; have K12 : Hid (Fm w [(w.heap.size, cpC c, 26), (w.heap.size + 1, pnC { p with Mode := 0 }, 30), (v4.heap.size, cpC N, 26), (v7.heap.size, dvC D, 37), (y9.heap.size, cpC (c.up 0), 26)] (y11.setCell ⟨y9.heap.size, 0, none⟩ (.int .u16 (IntKind.u16.wrap (c.R 0 + 1))))) := K11.out.setCell 4 _ _ _ _ rfl 0 _ (cpC_up c 0 (by decide)))
    | (refine gen_world (y11.setCell ⟨y9.heap.size, 0, none⟩ (.int .u16 (IntKind.u16.wrap (c.R 0 + 1)))) (Fm w [(w.heap.size, cpC c, 26), (w.heap.size + 1, pnC { p with Mode := 0 }, 30), (v4.heap.size, cpC N, 26), (v7.heap.size, dvC D, 37), (y9.heap.size, cpC (c.up 0), 26)]) K12.out ?_; intro y12 K13; have m25 := BoxC.fPh (K13.out.get 2 _ _ _ rfl); have x25 := BoxC.fPh (K13.out.get 4 _ _ _ rfl); have f25 := frozen_heap (K13.out.get 4 _ _ _ rfl) 25; have K14 : Hid (Fm w [(w.heap.size, cpC c, 26), (w.heap.size + 1, pnC { p with Mode := 0 }, 30), (v4.heap.size, cpC N, 26), (v7.heap.size, dvC D, 37), (y9.heap.size, cpC { c.up 0 with Ph := N.Ph }, 26)] (y12.setCell ⟨y9.heap.size, 25, none⟩ (.int .u8 (N.Ph : Int)))) := K13.out.setCell 4 _ _ _ _ rfl 25 _ (cpC_setPh (c.up 0) N.Ph))
    | (refine gen_world (y12.setCell ⟨y9.heap.size, 25, none⟩ (.int .u8 (N.Ph : Int))) (Fm w [(w.heap.size, cpC c, 26), (w.heap.size + 1, pnC { p with Mode := 0 }, 30), (v4.heap.size, cpC N, 26), (v7.heap.size, dvC D, 37), (y9.heap.size, cpC { c.up 0 with Ph := N.Ph }, 26)]) K14.out ?_; intro y14 K15; have c0' := BoxC.r (K15.out.get 0 _ _ _ rfl) 0 (by decide); have c25 := BoxC.fPh (K15.out.get 0 _ _ _ rfl); rw [hph.out] at c25; have c23 := BoxC.fOp (K15.out.get 0 _ _ _ rfl); rw [ho.out] at c23; have k25 := BoxC.fPh (K15.out.get 2 _ _ _ rfl); rw [n1.out] at k25; have k21 := BoxC.fIE (K15.out.get 2 _ _ _ rfl); have r6 : y14.cell? ⟨w.heap.size + 1, 6, none⟩ = some (.bool p.DI) := BoxP.fDI (p := { p with Mode := 0 }) (K15.out.get 1 _ _ _ rfl); have r7 : y14.cell? ⟨w.heap.size + 1, 7, none⟩ = some (.bool p.DO) := BoxP.fDO (p := { p with Mode := 0 }) (K15.out.get 1 _ _ _ rfl); have r8 : y14.cell? ⟨w.heap.size + 1, 8, none⟩ = some (.bool p.Int_) := BoxP.fInt (p := { p with Mode := 0 }) (K15.out.get 1 _ _ _ rfl); rw [l1.out] at r6; rw [l2.out] at r7; rw [l3.out] at r8; rw [l4.out] at k21; refine stopAt ?_)
    | (refine at_loadC w.heap.size c (K9.out.get 0 _ _ _ rfl) _ rfl rfl rfl ?_)
    | (refine at_loadC w.heap.size c (K6.out.get 0 _ _ _ rfl) _ rfl rfl rfl ?_)
    | (refine at_loadC w.heap.size c (K4.out.get 0 _ _ _ rfl) _ rfl rfl rfl ?_)
    | (refine at_loadP (w.heap.size + 1) _ (K4.out.get 1 _ _ _ rfl) _ rfl rfl rfl ?_)
    | (refine at_loadC w.heap.size c (K1.out.get 0 _ _ _ rfl) _ rfl rfl rfl ?_))
  refine Stop.go ?_
  refine at_loadC v4.heap.size N (K15.out.get 2 _ _ _ rfl) _ rfl rfl rfl ?_
  try simp only [Act.put, List.setIfInBounds_toArray, List.set_cons_zero, List.set_cons_succ]
  refine at_loadC y9.heap.size _ (K15.out.get 4 _ _ _ rfl) _ rfl rfl rfl ?_
  try simp only [Act.put, List.setIfInBounds_toArray, List.set_cons_zero, List.set_cons_succ]
  refine at_neC N _ hNe.out _ _ _ rfl rfl rfl rfl ?_
  try simp only [Act.put, List.setIfInBounds_toArray, List.set_cons_zero, List.set_cons_succ]
  with_reducible refine at_op (.bool false) ?_ ?_ ?_
  · kernel_rfl
  · go_simp
  try simp only [Act.put, List.setIfInBounds_toArray, List.set_cons_zero, List.set_cons_succ]
  with_reducible refine at_loadDg v7.heap.size D ?_ (.tmp 8) ?_ ?_ ?_ ?_
  · exact K15.out.get 3 _ _ _ rfl
  · kernel_rfl
  · rfl
  · rfl
  try simp only [Act.put, List.setIfInBounds_toArray, List.set_cons_zero, List.set_cons_succ]
  with_reducible refine at_op (.pointer (some ⟨w.heap.size, 0, none⟩)) ?_ ?_ ?_
  · kernel_rfl
  · go_simp
  try simp only [Act.put, List.setIfInBounds_toArray, List.set_cons_zero, List.set_cons_succ]
  with_reducible refine at_op (.pointer (some ⟨w.heap.size, 0, none⟩)) ?_ ?_ ?_
  · kernel_rfl
  · go_simp
  try simp only [Act.put, List.setIfInBounds_toArray, List.set_cons_zero, List.set_cons_succ]
  with_reducible refine at_op (.int .u16 (c.R 0)) ?_ ?_ ?_
  · kernel_rfl
  · go_simp
  try simp only [Act.put, List.setIfInBounds_toArray, List.set_cons_zero, List.set_cons_succ]
  with_reducible refine at_op (.pointer (some ⟨w.heap.size, 25, none⟩)) ?_ ?_ ?_
  · kernel_rfl
  · go_simp
  try simp only [Act.put, List.setIfInBounds_toArray, List.set_cons_zero, List.set_cons_succ]
  with_reducible refine at_op (.int .u8 6) ?_ ?_ ?_
  · kernel_rfl
  · go_simp
  try simp only [Act.put, List.setIfInBounds_toArray, List.set_cons_zero, List.set_cons_succ]
  with_reducible refine at_op (.bool false) ?_ ?_ ?_
  · kernel_rfl
  · go_simp
  try simp only [Act.put, List.setIfInBounds_toArray, List.set_cons_zero, List.set_cons_succ]
  with_reducible refine at_op (.pointer (some ⟨w.heap.size, 25, none⟩)) ?_ ?_ ?_
  · kernel_rfl
  · go_simp
  try simp only [Act.put, List.setIfInBounds_toArray, List.set_cons_zero, List.set_cons_succ]
  with_reducible refine at_op (.int .u8 6) ?_ ?_ ?_
  · kernel_rfl
  · go_simp
  try simp only [Act.put, List.setIfInBounds_toArray, List.set_cons_zero, List.set_cons_succ]
  with_reducible refine at_op (.bool true) ?_ ?_ ?_
  · kernel_rfl
  · go_simp
  try simp only [Act.put, List.setIfInBounds_toArray, List.set_cons_zero, List.set_cons_succ]
  with_reducible refine wantD #[(0, .const (.int .u8 2)), (1, .tmp 54), (2, .tmp 57), (3, .tmp 60), (7, .const (.bool true))] [(0, .int .u8 2), (1, .int .u16 (c.R 0)), (2, .bool false), (3, .bool true), (7, .bool true)] D ?_ ?_ ?_ hbD.out (some 61) ?_ ?_
  · kernel_rfl
  · rfl
  · first | (simp [Act.eval]; done) | (go_simp; done)
  · rfl
  try simp only [Act.put, List.setIfInBounds_toArray, List.set_cons_zero, List.set_cons_succ]
  with_reducible refine at_neD D D rfl (.tmp 51) (.tmp 61) 37 ?_ ?_ ?_ ?_ ?_
  · kernel_rfl
  · rfl
  · rfl
  · rfl
  try simp only [Act.put, List.setIfInBounds_toArray, List.set_cons_zero, List.set_cons_succ]
  with_reducible refine at_op (.bool false) ?_ ?_ ?_
  · kernel_rfl
  · go_simp
  try simp only [Act.put, List.setIfInBounds_toArray, List.set_cons_zero, List.set_cons_succ]
  go_wp2
  all_goals go_ret
  all_goals exact ⟨by first | rfl | simp, K15.out.low⟩

theorem asked_6ie (w : World) (c : Cp) (hc : c.wf) (p : Pn) (hp : p.wf) (tb : Tabs w) (hch : checkB c = true) (N : Cp) (hN : goOnM c { p with Mode := 0 } = N) (h : c.Ph = 6) (l1 : p.DI = false) (l2 : p.DO = false) (l3 : p.Int_ = true) (l4 : N.IE = false) (hPh : N.Ph = 1) : Calls Tryd.prog 5 #[.agg (cpC c), .agg (pnC p)] w fun e w' => e = .returned (.bool true) ∧ Below w.heap.size w w' := by
  have hA := fun v t => lawake v t
  have hM := fun v => lmay v c hc
  rw [hch] at hM
  have hS := fun v t => ystep v c hc { p with Mode := 0 } (pn_wf0 hp) t
  rw [step_run p hch, hN] at hS
  have hD := fun v t => ydrive v c hc t 0 (by decide)
  have zz := zeroVC
  have zd := zeroVD
  have tb' : Hid (Tabs w) := tb
  have hF : Hid (Fm w [(w.heap.size, cpC c, 26), (w.heap.size + 1, pnC p, 30)] ((w.alloc (.cells (cpC c) 26)).alloc (.cells (pnC p) 30))) := Fm.two w c p
  obtain ⟨o, ho⟩ : ∃ o : Int, (c.Op : Int) = o := ⟨_, rfl⟩
  have hph : (c.Ph : Int) = 6 := by omega
  have n1 : (N.Ph : Int) = 1 := by omega
  have hDe : driveM c 0 = (⟨2, c.R 0, false, true, false, 0, 0, true⟩ : Dv) := by unfold driveM runM; rw [if_pos hch]; simp only [h]; rfl
  rw [hDe] at hD
  have hNe : Hid (cpC N = cpC { c.up 0 with Ph := N.Ph }) := by rw [show (Hid (cpC N = cpC { c.up 0 with Ph := N.Ph })) = (cpC N = cpC { c.up 0 with Ph := N.Ph }) from rfl, ← hN]; unfold goOnM; simp only [h]
  obtain ⟨D, hDD⟩ : ∃ D : Dv, (⟨2, c.R 0, false, true, false, 0, 0, true⟩ : Dv) = D := ⟨_, rfl⟩
  rw [hDD] at hD
  have hbD : Hid (Tryd.prog.built 37 [(0, .int .u8 2), (1, .int .u16 (c.R 0)), (2, .bool false), (3, .bool true), (7, .bool true)] = some (dvC D)) := by rw [← hDD]; exact (by kernel_rfl : Tryd.prog.built 37 [(0, .int .u8 2), (1, .int .u16 (c.R 0)), (2, .bool false), (3, .bool true), (7, .bool true)] = some (dvC (⟨2, c.R 0, false, true, false, 0, 0, true⟩ : Dv)))
  replace ho : Hid _ := ho
  replace hph : Hid _ := hph
  replace n1 : Hid _ := n1
  replace l1 : Hid _ := l1
  replace l2 : Hid _ := l2
  replace l3 : Hid _ := l3
  replace l4 : Hid _ := l4
  clear hc hp tb hch hN h hPh hDe hDD
  go_enter Tryd.func5, Tryd.ntmps5
  go_wp2_with (first
    | (refine gen_world ((w.alloc (.cells (cpC c) 26)).alloc (.cells (pnC p) 30)) (Fm w [(w.heap.size, cpC c, 26), (w.heap.size + 1, pnC p, 30)]) hF.out ?_; intro y K0)
    | (go_at_call 12; refine (hA _ (tb'.out.below K0.out.low)).mono ?_; rintro e v1 ⟨rfl, hb1⟩; have K1 : Hid _ := K0.out.below hb1)
    | (go_at_call 8; refine (hM _).mono ?_; rintro e v2 ⟨rfl, hb2⟩; have K2 : Hid _ := K1.out.below hb2; have dM := BoxP.fMode (K2.out.get 1 _ _ _ rfl); have fM := frozen_heap (K2.out.get 1 _ _ _ rfl) 0; have K3 : Hid (Fm w [(w.heap.size, cpC c, 26), (w.heap.size + 1, pnC { p with Mode := 0 }, 30)] (v2.setCell ⟨w.heap.size + 1, 0, none⟩ (.int .u8 0))) := K2.out.setCell 1 _ _ _ _ rfl 0 _ rfl)
    | (refine gen_world (v2.setCell ⟨w.heap.size + 1, 0, none⟩ (.int .u8 0)) (Fm w [(w.heap.size, cpC c, 26), (w.heap.size + 1, pnC { p with Mode := 0 }, 30)]) K3.out ?_; intro y3 K4)
    | (go_at_call 10; refine (hS _ (tb'.out.below K4.out.low)).mono ?_; rintro e v4 ⟨rfl, hb4⟩; have K5 : Hid _ := K4.out.below hb4)
    | (refine gen_world (v4.alloc (.cells (cpC zeroC) 26)) (Fm w [(w.heap.size, cpC c, 26), (w.heap.size + 1, pnC { p with Mode := 0 }, 30), (v4.heap.size, cpC zeroC, 26)]) (K5.out.new _ _) ?_; intro y5 K55)
    | (refine at_storeC v4.heap.size zeroC N (K55.out.get 2 _ _ _ rfl) _ _ rfl rfl rfl rfl ?_; intro y6 hw6; have K6 : Hid (Fm w [(w.heap.size, cpC c, 26), (w.heap.size + 1, pnC { p with Mode := 0 }, 30), (v4.heap.size, cpC N, 26)] y6) := K55.out.put 2 _ _ _ _ rfl hw6.out; have d25 := BoxC.fPh (K6.out.get 0 _ _ _ rfl); have d23 := BoxC.fOp (K6.out.get 0 _ _ _ rfl); rw [ho.out] at d23; have n25 := BoxC.fPh (K6.out.get 2 _ _ _ rfl); have n21 := BoxC.fIE (K6.out.get 2 _ _ _ rfl); have n23 := BoxC.fOp (K6.out.get 2 _ _ _ rfl); have p1 : y6.cell? ⟨w.heap.size + 1, 1, none⟩ = some (.int .u8 p.Data) := BoxP.fData (p := { p with Mode := 0 }) (K6.out.get 1 _ _ _ rfl); have p6 : y6.cell? ⟨w.heap.size + 1, 6, none⟩ = some (.bool p.DI) := BoxP.fDI (p := { p with Mode := 0 }) (K6.out.get 1 _ _ _ rfl); have p7 : y6.cell? ⟨w.heap.size + 1, 7, none⟩ = some (.bool p.DO) := BoxP.fDO (p := { p with Mode := 0 }) (K6.out.get 1 _ _ _ rfl); have p8 : y6.cell? ⟨w.heap.size + 1, 8, none⟩ = some (.bool p.Int_) := BoxP.fInt (p := { p with Mode := 0 }) (K6.out.get 1 _ _ _ rfl); rw [hph.out] at d25)
    | (go_at_call 11; refine (hD _ (tb'.out.below K6.out.low)).mono ?_; rintro e v7 ⟨rfl, hb7⟩; have K7 : Hid _ := K6.out.below hb7)
    | (refine gen_world (v7.alloc (.cells (dvC zeroD) 37)) (Fm w [(w.heap.size, cpC c, 26), (w.heap.size + 1, pnC { p with Mode := 0 }, 30), (v4.heap.size, cpC N, 26), (v7.heap.size, dvC zeroD, 37)]) (K7.out.new _ _) ?_; intro y8 K8)
    | (refine at_storeD v7.heap.size zeroD D (K8.out.get 3 _ _ _ rfl) _ _ rfl rfl rfl rfl ?_; intro y9 hw9; have K9 : Hid (Fm w [(w.heap.size, cpC c, 26), (w.heap.size + 1, pnC { p with Mode := 0 }, 30), (v4.heap.size, cpC N, 26), (v7.heap.size, dvC D, 37)] y9) := K8.out.put 3 _ _ _ _ rfl hw9.out)
    | (refine gen_world (y9.alloc (.cells (cpC zeroC) 26)) (Fm w [(w.heap.size, cpC c, 26), (w.heap.size + 1, pnC { p with Mode := 0 }, 30), (v4.heap.size, cpC N, 26), (v7.heap.size, dvC D, 37), (y9.heap.size, cpC zeroC, 26)]) (K9.out.new _ _) ?_; intro y10 K10)
    | (refine at_storeC y9.heap.size zeroC c (K10.out.get 4 _ _ _ rfl) _ _ rfl rfl rfl rfl ?_; intro y11 hw11; have K11 : Hid (Fm w [(w.heap.size, cpC c, 26), (w.heap.size + 1, pnC { p with Mode := 0 }, 30), (v4.heap.size, cpC N, 26), (v7.heap.size, dvC D, 37), (y9.heap.size, cpC c, 26)] y11) := K10.out.put 4 _ _ _ _ rfl hw11.out; have c0 := BoxC.r (K11.out.get 0 _ _ _ rfl) 0 (by decide); have x0 := BoxC.r (K11.out.get 4 _ _ _ rfl) 0 (by decide); have f0 := frozen_heap (K11.out.get 4 _ _ _ rfl) 0; have K12 : Hid (Fm w [(w.heap.size, cpC c, 26), (w.heap.size + 1, pnC { p with Mode := 0 }, 30), (v4.heap.size, cpC N, 26), (v7.heap.size, dvC D, 37), (y9.heap.size, cpC (c.up 0), 26)] (y11.setCell ⟨y9.heap.size, 0, none⟩ (.int .u16 (IntKind.u16.wrap (c.R 0 + 1))))) := K11.out.setCell 4 _ _ _ _ rfl 0 _ (cpC_up c 0 (by decide)))
    | (refine gen_world (y11.setCell ⟨y9.heap.size, 0, none⟩ (.int .u16 (IntKind.u16.wrap (c.R 0 + 1)))) (Fm w [(w.heap.size, cpC c, 26), (w.heap.size + 1, pnC { p with Mode := 0 }, 30), (v4.heap.size, cpC N, 26), (v7.heap.size, dvC D, 37), (y9.heap.size, cpC (c.up 0), 26)]) K12.out ?_; intro y12 K13; have m25 := BoxC.fPh (K13.out.get 2 _ _ _ rfl); have x25 := BoxC.fPh (K13.out.get 4 _ _ _ rfl); have f25 := frozen_heap (K13.out.get 4 _ _ _ rfl) 25; have K14 : Hid (Fm w [(w.heap.size, cpC c, 26), (w.heap.size + 1, pnC { p with Mode := 0 }, 30), (v4.heap.size, cpC N, 26), (v7.heap.size, dvC D, 37), (y9.heap.size, cpC { c.up 0 with Ph := N.Ph }, 26)] (y12.setCell ⟨y9.heap.size, 25, none⟩ (.int .u8 (N.Ph : Int)))) := K13.out.setCell 4 _ _ _ _ rfl 25 _ (cpC_setPh (c.up 0) N.Ph))
    | (refine gen_world (y12.setCell ⟨y9.heap.size, 25, none⟩ (.int .u8 (N.Ph : Int))) (Fm w [(w.heap.size, cpC c, 26), (w.heap.size + 1, pnC { p with Mode := 0 }, 30), (v4.heap.size, cpC N, 26), (v7.heap.size, dvC D, 37), (y9.heap.size, cpC { c.up 0 with Ph := N.Ph }, 26)]) K14.out ?_; intro y14 K15; have c0' := BoxC.r (K15.out.get 0 _ _ _ rfl) 0 (by decide); have c25 := BoxC.fPh (K15.out.get 0 _ _ _ rfl); rw [hph.out] at c25; have c23 := BoxC.fOp (K15.out.get 0 _ _ _ rfl); rw [ho.out] at c23; have k25 := BoxC.fPh (K15.out.get 2 _ _ _ rfl); rw [n1.out] at k25; have k21 := BoxC.fIE (K15.out.get 2 _ _ _ rfl); have r6 : y14.cell? ⟨w.heap.size + 1, 6, none⟩ = some (.bool p.DI) := BoxP.fDI (p := { p with Mode := 0 }) (K15.out.get 1 _ _ _ rfl); have r7 : y14.cell? ⟨w.heap.size + 1, 7, none⟩ = some (.bool p.DO) := BoxP.fDO (p := { p with Mode := 0 }) (K15.out.get 1 _ _ _ rfl); have r8 : y14.cell? ⟨w.heap.size + 1, 8, none⟩ = some (.bool p.Int_) := BoxP.fInt (p := { p with Mode := 0 }) (K15.out.get 1 _ _ _ rfl); rw [l1.out] at r6; rw [l2.out] at r7; rw [l3.out] at r8; rw [l4.out] at k21; refine stopAt ?_)
    | (refine at_loadC w.heap.size c (K9.out.get 0 _ _ _ rfl) _ rfl rfl rfl ?_)
    | (refine at_loadC w.heap.size c (K6.out.get 0 _ _ _ rfl) _ rfl rfl rfl ?_)
    | (refine at_loadC w.heap.size c (K4.out.get 0 _ _ _ rfl) _ rfl rfl rfl ?_)
    | (refine at_loadP (w.heap.size + 1) _ (K4.out.get 1 _ _ _ rfl) _ rfl rfl rfl ?_)
    | (refine at_loadC w.heap.size c (K1.out.get 0 _ _ _ rfl) _ rfl rfl rfl ?_))
  refine Stop.go ?_
  refine at_loadC v4.heap.size N (K15.out.get 2 _ _ _ rfl) _ rfl rfl rfl ?_
  try simp only [Act.put, List.setIfInBounds_toArray, List.set_cons_zero, List.set_cons_succ]
  refine at_loadC y9.heap.size _ (K15.out.get 4 _ _ _ rfl) _ rfl rfl rfl ?_
  try simp only [Act.put, List.setIfInBounds_toArray, List.set_cons_zero, List.set_cons_succ]
  refine at_neC N _ hNe.out _ _ _ rfl rfl rfl rfl ?_
  try simp only [Act.put, List.setIfInBounds_toArray, List.set_cons_zero, List.set_cons_succ]
  with_reducible refine at_op (.bool false) ?_ ?_ ?_
  · kernel_rfl
  · go_simp
  try simp only [Act.put, List.setIfInBounds_toArray, List.set_cons_zero, List.set_cons_succ]
  with_reducible refine at_loadDg v7.heap.size D ?_ (.tmp 8) ?_ ?_ ?_ ?_
  · exact K15.out.get 3 _ _ _ rfl
  · kernel_rfl
  · rfl
  · rfl
  try simp only [Act.put, List.setIfInBounds_toArray, List.set_cons_zero, List.set_cons_succ]
  with_reducible refine at_op (.pointer (some ⟨w.heap.size, 0, none⟩)) ?_ ?_ ?_
  · kernel_rfl
  · go_simp
  try simp only [Act.put, List.setIfInBounds_toArray, List.set_cons_zero, List.set_cons_succ]
  with_reducible refine at_op (.pointer (some ⟨w.heap.size, 0, none⟩)) ?_ ?_ ?_
  · kernel_rfl
  · go_simp
  try simp only [Act.put, List.setIfInBounds_toArray, List.set_cons_zero, List.set_cons_succ]
  with_reducible refine at_op (.int .u16 (c.R 0)) ?_ ?_ ?_
  · kernel_rfl
  · go_simp
  try simp only [Act.put, List.setIfInBounds_toArray, List.set_cons_zero, List.set_cons_succ]
  with_reducible refine at_op (.pointer (some ⟨w.heap.size, 25, none⟩)) ?_ ?_ ?_
  · kernel_rfl
  · go_simp
  try simp only [Act.put, List.setIfInBounds_toArray, List.set_cons_zero, List.set_cons_succ]
  with_reducible refine at_op (.int .u8 6) ?_ ?_ ?_
  · kernel_rfl
  · go_simp
  try simp only [Act.put, List.setIfInBounds_toArray, List.set_cons_zero, List.set_cons_succ]
  with_reducible refine at_op (.bool false) ?_ ?_ ?_
  · kernel_rfl
  · go_simp
  try simp only [Act.put, List.setIfInBounds_toArray, List.set_cons_zero, List.set_cons_succ]
  with_reducible refine at_op (.pointer (some ⟨w.heap.size, 25, none⟩)) ?_ ?_ ?_
  · kernel_rfl
  · go_simp
  try simp only [Act.put, List.setIfInBounds_toArray, List.set_cons_zero, List.set_cons_succ]
  with_reducible refine at_op (.int .u8 6) ?_ ?_ ?_
  · kernel_rfl
  · go_simp
  try simp only [Act.put, List.setIfInBounds_toArray, List.set_cons_zero, List.set_cons_succ]
  with_reducible refine at_op (.bool true) ?_ ?_ ?_
  · kernel_rfl
  · go_simp
  try simp only [Act.put, List.setIfInBounds_toArray, List.set_cons_zero, List.set_cons_succ]
  with_reducible refine wantD #[(0, .const (.int .u8 2)), (1, .tmp 54), (2, .tmp 57), (3, .tmp 60), (7, .const (.bool true))] [(0, .int .u8 2), (1, .int .u16 (c.R 0)), (2, .bool false), (3, .bool true), (7, .bool true)] D ?_ ?_ ?_ hbD.out (some 61) ?_ ?_
  · kernel_rfl
  · rfl
  · first | (simp [Act.eval]; done) | (go_simp; done)
  · rfl
  try simp only [Act.put, List.setIfInBounds_toArray, List.set_cons_zero, List.set_cons_succ]
  with_reducible refine at_neD D D rfl (.tmp 51) (.tmp 61) 37 ?_ ?_ ?_ ?_ ?_
  · kernel_rfl
  · rfl
  · rfl
  · rfl
  try simp only [Act.put, List.setIfInBounds_toArray, List.set_cons_zero, List.set_cons_succ]
  with_reducible refine at_op (.bool false) ?_ ?_ ?_
  · kernel_rfl
  · go_simp
  try simp only [Act.put, List.setIfInBounds_toArray, List.set_cons_zero, List.set_cons_succ]
  go_wp2
  all_goals go_ret
  all_goals exact ⟨by first | rfl | simp, K15.out.low⟩

theorem asked_6no (w : World) (c : Cp) (hc : c.wf) (p : Pn) (hp : p.wf) (tb : Tabs w) (hch : checkB c = true) (N : Cp) (hN : goOnM c { p with Mode := 0 } = N) (h : c.Ph = 6) (l1 : p.DI = false) (l2 : p.DO = false) (l3 : p.Int_ = false) (hPh : N.Ph = 1) : Calls Tryd.prog 5 #[.agg (cpC c), .agg (pnC p)] w fun e w' => e = .returned (.bool true) ∧ Below w.heap.size w w' := by
  have hA := fun v t => lawake v t
  have hM := fun v => lmay v c hc
  rw [hch] at hM
  have hS := fun v t => ystep v c hc { p with Mode := 0 } (pn_wf0 hp) t
  rw [step_run p hch, hN] at hS
  have hD := fun v t => ydrive v c hc t 0 (by decide)
  have zz := zeroVC
  have zd := zeroVD
  have tb' : Hid (Tabs w) := tb
  have hF : Hid (Fm w [(w.heap.size, cpC c, 26), (w.heap.size + 1, pnC p, 30)] ((w.alloc (.cells (cpC c) 26)).alloc (.cells (pnC p) 30))) := Fm.two w c p
  obtain ⟨o, ho⟩ : ∃ o : Int, (c.Op : Int) = o := ⟨_, rfl⟩
  have hph : (c.Ph : Int) = 6 := by omega
  have n1 : (N.Ph : Int) = 1 := by omega
  have hDe : driveM c 0 = (⟨2, c.R 0, false, true, false, 0, 0, true⟩ : Dv) := by unfold driveM runM; rw [if_pos hch]; simp only [h]; rfl
  rw [hDe] at hD
  have hNe : Hid (cpC N = cpC { c.up 0 with Ph := N.Ph }) := by rw [show (Hid (cpC N = cpC { c.up 0 with Ph := N.Ph })) = (cpC N = cpC { c.up 0 with Ph := N.Ph }) from rfl, ← hN]; unfold goOnM; simp only [h]
  obtain ⟨D, hDD⟩ : ∃ D : Dv, (⟨2, c.R 0, false, true, false, 0, 0, true⟩ : Dv) = D := ⟨_, rfl⟩
  rw [hDD] at hD
  have hbD : Hid (Tryd.prog.built 37 [(0, .int .u8 2), (1, .int .u16 (c.R 0)), (2, .bool false), (3, .bool true), (7, .bool true)] = some (dvC D)) := by rw [← hDD]; exact (by kernel_rfl : Tryd.prog.built 37 [(0, .int .u8 2), (1, .int .u16 (c.R 0)), (2, .bool false), (3, .bool true), (7, .bool true)] = some (dvC (⟨2, c.R 0, false, true, false, 0, 0, true⟩ : Dv)))
  replace ho : Hid _ := ho
  replace hph : Hid _ := hph
  replace n1 : Hid _ := n1
  replace l1 : Hid _ := l1
  replace l2 : Hid _ := l2
  replace l3 : Hid _ := l3
  clear hc hp tb hch hN h hPh hDe hDD
  go_enter Tryd.func5, Tryd.ntmps5
  go_wp2_with (first
    | (refine gen_world ((w.alloc (.cells (cpC c) 26)).alloc (.cells (pnC p) 30)) (Fm w [(w.heap.size, cpC c, 26), (w.heap.size + 1, pnC p, 30)]) hF.out ?_; intro y K0)
    | (go_at_call 12; refine (hA _ (tb'.out.below K0.out.low)).mono ?_; rintro e v1 ⟨rfl, hb1⟩; have K1 : Hid _ := K0.out.below hb1)
    | (go_at_call 8; refine (hM _).mono ?_; rintro e v2 ⟨rfl, hb2⟩; have K2 : Hid _ := K1.out.below hb2; have dM := BoxP.fMode (K2.out.get 1 _ _ _ rfl); have fM := frozen_heap (K2.out.get 1 _ _ _ rfl) 0; have K3 : Hid (Fm w [(w.heap.size, cpC c, 26), (w.heap.size + 1, pnC { p with Mode := 0 }, 30)] (v2.setCell ⟨w.heap.size + 1, 0, none⟩ (.int .u8 0))) := K2.out.setCell 1 _ _ _ _ rfl 0 _ rfl)
    | (refine gen_world (v2.setCell ⟨w.heap.size + 1, 0, none⟩ (.int .u8 0)) (Fm w [(w.heap.size, cpC c, 26), (w.heap.size + 1, pnC { p with Mode := 0 }, 30)]) K3.out ?_; intro y3 K4)
    | (go_at_call 10; refine (hS _ (tb'.out.below K4.out.low)).mono ?_; rintro e v4 ⟨rfl, hb4⟩; have K5 : Hid _ := K4.out.below hb4)
    | (refine gen_world (v4.alloc (.cells (cpC zeroC) 26)) (Fm w [(w.heap.size, cpC c, 26), (w.heap.size + 1, pnC { p with Mode := 0 }, 30), (v4.heap.size, cpC zeroC, 26)]) (K5.out.new _ _) ?_; intro y5 K55)
    | (refine at_storeC v4.heap.size zeroC N (K55.out.get 2 _ _ _ rfl) _ _ rfl rfl rfl rfl ?_; intro y6 hw6; have K6 : Hid (Fm w [(w.heap.size, cpC c, 26), (w.heap.size + 1, pnC { p with Mode := 0 }, 30), (v4.heap.size, cpC N, 26)] y6) := K55.out.put 2 _ _ _ _ rfl hw6.out; have d25 := BoxC.fPh (K6.out.get 0 _ _ _ rfl); have d23 := BoxC.fOp (K6.out.get 0 _ _ _ rfl); rw [ho.out] at d23; have n25 := BoxC.fPh (K6.out.get 2 _ _ _ rfl); have n21 := BoxC.fIE (K6.out.get 2 _ _ _ rfl); have n23 := BoxC.fOp (K6.out.get 2 _ _ _ rfl); have p1 : y6.cell? ⟨w.heap.size + 1, 1, none⟩ = some (.int .u8 p.Data) := BoxP.fData (p := { p with Mode := 0 }) (K6.out.get 1 _ _ _ rfl); have p6 : y6.cell? ⟨w.heap.size + 1, 6, none⟩ = some (.bool p.DI) := BoxP.fDI (p := { p with Mode := 0 }) (K6.out.get 1 _ _ _ rfl); have p7 : y6.cell? ⟨w.heap.size + 1, 7, none⟩ = some (.bool p.DO) := BoxP.fDO (p := { p with Mode := 0 }) (K6.out.get 1 _ _ _ rfl); have p8 : y6.cell? ⟨w.heap.size + 1, 8, none⟩ = some (.bool p.Int_) := BoxP.fInt (p := { p with Mode := 0 }) (K6.out.get 1 _ _ _ rfl); rw [hph.out] at d25)
    | (go_at_call 11; refine (hD _ (tb'.out.below K6.out.low)).mono ?_; rintro e v7 ⟨rfl, hb7⟩; have K7 : Hid _ := K6.out.below hb7)
    | (refine gen_world (v7.alloc (.cells (dvC zeroD) 37)) (Fm w [(w.heap.size, cpC c, 26), (w.heap.size + 1, pnC { p with Mode := 0 }, 30), (v4.heap.size, cpC N, 26), (v7.heap.size, dvC zeroD, 37)]) (K7.out.new _ _) ?_; intro y8 K8)
    | (refine at_storeD v7.heap.size zeroD D (K8.out.get 3 _ _ _ rfl) _ _ rfl rfl rfl rfl ?_; intro y9 hw9; have K9 : Hid (Fm w [(w.heap.size, cpC c, 26), (w.heap.size + 1, pnC { p with Mode := 0 }, 30), (v4.heap.size, cpC N, 26), (v7.heap.size, dvC D, 37)] y9) := K8.out.put 3 _ _ _ _ rfl hw9.out)
    | (refine gen_world (y9.alloc (.cells (cpC zeroC) 26)) (Fm w [(w.heap.size, cpC c, 26), (w.heap.size + 1, pnC { p with Mode := 0 }, 30), (v4.heap.size, cpC N, 26), (v7.heap.size, dvC D, 37), (y9.heap.size, cpC zeroC, 26)]) (K9.out.new _ _) ?_; intro y10 K10)
    | (refine at_storeC y9.heap.size zeroC c (K10.out.get 4 _ _ _ rfl) _ _ rfl rfl rfl rfl ?_; intro y11 hw11; have K11 : Hid (Fm w [(w.heap.size, cpC c, 26), (w.heap.size + 1, pnC { p with Mode := 0 }, 30), (v4.heap.size, cpC N, 26), (v7.heap.size, dvC D, 37), (y9.heap.size, cpC c, 26)] y11) := K10.out.put 4 _ _ _ _ rfl hw11.out; have c0 := BoxC.r (K11.out.get 0 _ _ _ rfl) 0 (by decide); have x0 := BoxC.r (K11.out.get 4 _ _ _ rfl) 0 (by decide); have f0 := frozen_heap (K11.out.get 4 _ _ _ rfl) 0; have K12 : Hid (Fm w [(w.heap.size, cpC c, 26), (w.heap.size + 1, pnC { p with Mode := 0 }, 30), (v4.heap.size, cpC N, 26), (v7.heap.size, dvC D, 37), (y9.heap.size, cpC (c.up 0), 26)] (y11.setCell ⟨y9.heap.size, 0, none⟩ (.int .u16 (IntKind.u16.wrap (c.R 0 + 1))))) := K11.out.setCell 4 _ _ _ _ rfl 0 _ (cpC_up c 0 (by decide)))
    | (refine gen_world (y11.setCell ⟨y9.heap.size, 0, none⟩ (.int .u16 (IntKind.u16.wrap (c.R 0 + 1)))) (Fm w [(w.heap.size, cpC c, 26), (w.heap.size + 1, pnC { p with Mode := 0 }, 30), (v4.heap.size, cpC N, 26), (v7.heap.size, dvC D, 37), (y9.heap.size, cpC (c.up 0), 26)]) K12.out ?_; intro y12 K13; have m25 := BoxC.fPh (K13.out.get 2 _ _ _ rfl); have x25 := BoxC.fPh (K13.out.get 4 _ _ _ rfl); have f25 := frozen_heap (K13.out.get 4 _ _ _ rfl) 25; have K14 : Hid (Fm w [(w.heap.size, cpC c, 26), (w.heap.size + 1, pnC { p with Mode := 0 }, 30), (v4.heap.size, cpC N, 26), (v7.heap.size, dvC D, 37), (y9.heap.size, cpC { c.up 0 with Ph := N.Ph }, 26)] (y12.setCell ⟨y9.heap.size, 25, none⟩ (.int .u8 (N.Ph : Int)))) := K13.out.setCell 4 _ _ _ _ rfl 25 _ (cpC_setPh (c.up 0) N.Ph))
    | (refine gen_world (y12.setCell ⟨y9.heap.size, 25, none⟩ (.int .u8 (N.Ph : Int))) (Fm w [(w.heap.size, cpC c, 26), (w.heap.size + 1, pnC { p with Mode := 0 }, 30), (v4.heap.size, cpC N, 26), (v7.heap.size, dvC D, 37), (y9.heap.size, cpC { c.up 0 with Ph := N.Ph }, 26)]) K14.out ?_; intro y14 K15; have c0' := BoxC.r (K15.out.get 0 _ _ _ rfl) 0 (by decide); have c25 := BoxC.fPh (K15.out.get 0 _ _ _ rfl); rw [hph.out] at c25; have c23 := BoxC.fOp (K15.out.get 0 _ _ _ rfl); rw [ho.out] at c23; have k25 := BoxC.fPh (K15.out.get 2 _ _ _ rfl); rw [n1.out] at k25; have k21 := BoxC.fIE (K15.out.get 2 _ _ _ rfl); have r6 : y14.cell? ⟨w.heap.size + 1, 6, none⟩ = some (.bool p.DI) := BoxP.fDI (p := { p with Mode := 0 }) (K15.out.get 1 _ _ _ rfl); have r7 : y14.cell? ⟨w.heap.size + 1, 7, none⟩ = some (.bool p.DO) := BoxP.fDO (p := { p with Mode := 0 }) (K15.out.get 1 _ _ _ rfl); have r8 : y14.cell? ⟨w.heap.size + 1, 8, none⟩ = some (.bool p.Int_) := BoxP.fInt (p := { p with Mode := 0 }) (K15.out.get 1 _ _ _ rfl); rw [l1.out] at r6; rw [l2.out] at r7; rw [l3.out] at r8; refine stopAt ?_)
    | (refine at_loadC w.heap.size c (K9.out.get 0 _ _ _ rfl) _ rfl rfl rfl ?_)
    | (refine at_loadC w.heap.size c (K6.out.get 0 _ _ _ rfl) _ rfl rfl rfl ?_)
    | (refine at_loadC w.heap.size c (K4.out.get 0 _ _ _ rfl) _ rfl rfl rfl ?_)
    | (refine at_loadP (w.heap.size + 1) _ (K4.out.get 1 _ _ _ rfl) _ rfl rfl rfl ?_)
    | (refine at_loadC w.heap.size c (K1.out.get 0 _ _ _ rfl) _ rfl rfl rfl ?_))
  refine Stop.go ?_
  refine at_loadC v4.heap.size N (K15.out.get 2 _ _ _ rfl) _ rfl rfl rfl ?_
  try simp only [Act.put, List.setIfInBounds_toArray, List.set_cons_zero, List.set_cons_succ]
  refine at_loadC y9.heap.size _ (K15.out.get 4 _ _ _ rfl) _ rfl rfl rfl ?_
  try simp only [Act.put, List.setIfInBounds_toArray, List.set_cons_zero, List.set_cons_succ]
  refine at_neC N _ hNe.out _ _ _ rfl rfl rfl rfl ?_
  try simp only [Act.put, List.setIfInBounds_toArray, List.set_cons_zero, List.set_cons_succ]
  with_reducible refine at_op (.bool false) ?_ ?_ ?_
  · kernel_rfl
  · go_simp
  try simp only [Act.put, List.setIfInBounds_toArray, List.set_cons_zero, List.set_cons_succ]
  with_reducible refine at_loadDg v7.heap.size D ?_ (.tmp 8) ?_ ?_ ?_ ?_
  · exact K15.out.get 3 _ _ _ rfl
  · kernel_rfl
  · rfl
  · rfl
  try simp only [Act.put, List.setIfInBounds_toArray, List.set_cons_zero, List.set_cons_succ]
  with_reducible refine at_op (.pointer (some ⟨w.heap.size, 0, none⟩)) ?_ ?_ ?_
  · kernel_rfl
  · go_simp
  try simp only [Act.put, List.setIfInBounds_toArray, List.set_cons_zero, List.set_cons_succ]
  with_reducible refine at_op (.pointer (some ⟨w.heap.size, 0, none⟩)) ?_ ?_ ?_
  · kernel_rfl
  · go_simp
  try simp only [Act.put, List.setIfInBounds_toArray, List.set_cons_zero, List.set_cons_succ]
  with_reducible refine at_op (.int .u16 (c.R 0)) ?_ ?_ ?_
  · kernel_rfl
  · go_simp
  try simp only [Act.put, List.setIfInBounds_toArray, List.set_cons_zero, List.set_cons_succ]
  with_reducible refine at_op (.pointer (some ⟨w.heap.size, 25, none⟩)) ?_ ?_ ?_
  · kernel_rfl
  · go_simp
  try simp only [Act.put, List.setIfInBounds_toArray, List.set_cons_zero, List.set_cons_succ]
  with_reducible refine at_op (.int .u8 6) ?_ ?_ ?_
  · kernel_rfl
  · go_simp
  try simp only [Act.put, List.setIfInBounds_toArray, List.set_cons_zero, List.set_cons_succ]
  with_reducible refine at_op (.bool false) ?_ ?_ ?_
  · kernel_rfl
  · go_simp
  try simp only [Act.put, List.setIfInBounds_toArray, List.set_cons_zero, List.set_cons_succ]
  with_reducible refine at_op (.pointer (some ⟨w.heap.size, 25, none⟩)) ?_ ?_ ?_
  · kernel_rfl
  · go_simp
  try simp only [Act.put, List.setIfInBounds_toArray, List.set_cons_zero, List.set_cons_succ]
  with_reducible refine at_op (.int .u8 6) ?_ ?_ ?_
  · kernel_rfl
  · go_simp
  try simp only [Act.put, List.setIfInBounds_toArray, List.set_cons_zero, List.set_cons_succ]
  with_reducible refine at_op (.bool true) ?_ ?_ ?_
  · kernel_rfl
  · go_simp
  try simp only [Act.put, List.setIfInBounds_toArray, List.set_cons_zero, List.set_cons_succ]
  with_reducible refine wantD #[(0, .const (.int .u8 2)), (1, .tmp 54), (2, .tmp 57), (3, .tmp 60), (7, .const (.bool true))] [(0, .int .u8 2), (1, .int .u16 (c.R 0)), (2, .bool false), (3, .bool true), (7, .bool true)] D ?_ ?_ ?_ hbD.out (some 61) ?_ ?_
  · kernel_rfl
  · rfl
  · first | (simp [Act.eval]; done) | (go_simp; done)
  · rfl
  try simp only [Act.put, List.setIfInBounds_toArray, List.set_cons_zero, List.set_cons_succ]
  with_reducible refine at_neD D D rfl (.tmp 51) (.tmp 61) 37 ?_ ?_ ?_ ?_ ?_
  · kernel_rfl
  · rfl
  · rfl
  · rfl
  try simp only [Act.put, List.setIfInBounds_toArray, List.set_cons_zero, List.set_cons_succ]
  with_reducible refine at_op (.bool false) ?_ ?_ ?_
  · kernel_rfl
  · go_simp
  try simp only [Act.put, List.setIfInBounds_toArray, List.set_cons_zero, List.set_cons_succ]
  go_wp2
  all_goals go_ret
  all_goals exact ⟨by first | rfl | simp, K15.out.low⟩

theorem asked_7di (w : World) (c : Cp) (hc : c.wf) (p : Pn) (hp : p.wf) (tb : Tabs w) (hch : checkB c = true) (N : Cp) (hN : goOnM c { p with Mode := 0 } = N) (h : c.Ph = 7) (l1 : p.DI = true) (hPh : N.Ph = 6) : Calls Tryd.prog 5 #[.agg (cpC c), .agg (pnC p)] w fun e w' => e = .returned (.bool true) ∧ Below w.heap.size w w' := by
  have hA := fun v t => lawake v t
  have hM := fun v => lmay v c hc
  rw [hch] at hM
  have hS := fun v t => ystep v c hc { p with Mode := 0 } (pn_wf0 hp) t
  rw [step_run p hch, hN] at hS
  have hD := fun v t => ydrive v c hc t 0 (by decide)
  have zz := zeroVC
  have zd := zeroVD
  have tb' : Hid (Tabs w) := tb
  have hF : Hid (Fm w [(w.heap.size, cpC c, 26), (w.heap.size + 1, pnC p, 30)] ((w.alloc (.cells (cpC c) 26)).alloc (.cells (pnC p) 30))) := Fm.two w c p
  obtain ⟨o, ho⟩ : ∃ o : Int, (c.Op : Int) = o := ⟨_, rfl⟩
  have hph : (c.Ph : Int) = 7 := by omega
  have n1 : (N.Ph : Int) = 6 := by omega
  have hDe : driveM c 0 = (⟨2, c.R 0, true, false, false, 0, 0, true⟩ : Dv) := by unfold driveM runM; rw [if_pos hch]; simp only [h]; rfl
  rw [hDe] at hD
  have hNe : Hid (cpC N = cpC { c.up 0 with Ph := N.Ph }) := by rw [show (Hid (cpC N = cpC { c.up 0 with Ph := N.Ph })) = (cpC N = cpC { c.up 0 with Ph := N.Ph }) from rfl, ← hN]; unfold goOnM; simp only [h]
  obtain ⟨D, hDD⟩ : ∃ D : Dv, (⟨2, c.R 0, true, false, false, 0, 0, true⟩ : Dv) = D := ⟨_, rfl⟩
  rw [hDD] at hD
  have hbD : Hid (Tryd.prog.built 37 [(0, .int .u8 2), (1, .int .u16 (c.R 0)), (2, .bool true), (3, .bool false), (7, .bool true)] = some (dvC D)) := by rw [← hDD]; exact (by kernel_rfl : Tryd.prog.built 37 [(0, .int .u8 2), (1, .int .u16 (c.R 0)), (2, .bool true), (3, .bool false), (7, .bool true)] = some (dvC (⟨2, c.R 0, true, false, false, 0, 0, true⟩ : Dv)))
  replace ho : Hid _ := ho
  replace hph : Hid _ := hph
  replace n1 : Hid _ := n1
  replace l1 : Hid _ := l1
  clear hc hp tb hch hN h hPh hDe hDD
  go_enter Tryd.func5, Tryd.ntmps5
  go_wp2_with (first
    | (refine gen_world ((w.alloc (.cells (cpC c) 26)).alloc (.cells (pnC p) 30)) (Fm w [(w.heap.size, cpC c, 26), (w.heap.size + 1, pnC p, 30)]) hF.out ?_; intro y K0)
    | (go_at_call 12; refine (hA _ (tb'.out.below K0.out.low)).mono ?_; rintro e v1 ⟨rfl, hb1⟩; have K1 : Hid _ := K0.out.below hb1)
    | (go_at_call 8; refine (hM _).mono ?_; rintro e v2 ⟨rfl, hb2⟩; have K2 : Hid _ := K1.out.below hb2; have dM := BoxP.fMode (K2.out.get 1 _ _ _ rfl); have fM := frozen_heap (K2.out.get 1 _ _ _ rfl) 0; have K3 : Hid (Fm w [(w.heap.size, cpC c, 26), (w.heap.size + 1, pnC { p with Mode := 0 }, 30)] (v2.setCell ⟨w.heap.size + 1, 0, none⟩ (.int .u8 0))) := K2.out.setCell 1 _ _ _ _ rfl 0 _ rfl)
    | (refine gen_world (v2.setCell ⟨w.heap.size + 1, 0, none⟩ (.int .u8 0)) (Fm w [(w.heap.size, cpC c, 26), (w.heap.size + 1, pnC { p with Mode := 0 }, 30)]) K3.out ?_; intro y3 K4)
    | (go_at_call 10; refine (hS _ (tb'.out.below K4.out.low)).mono ?_; rintro e v4 ⟨rfl, hb4⟩; have K5 : Hid _ := K4.out.below hb4)
    | (refine gen_world (v4.alloc (.cells (cpC zeroC) 26)) (Fm w [(w.heap.size, cpC c, 26), (w.heap.size + 1, pnC { p with Mode := 0 }, 30), (v4.heap.size, cpC zeroC, 26)]) (K5.out.new _ _) ?_; intro y5 K55)
    | (refine at_storeC v4.heap.size zeroC N (K55.out.get 2 _ _ _ rfl) _ _ rfl rfl rfl rfl ?_; intro y6 hw6; have K6 : Hid (Fm w [(w.heap.size, cpC c, 26), (w.heap.size + 1, pnC { p with Mode := 0 }, 30), (v4.heap.size, cpC N, 26)] y6) := K55.out.put 2 _ _ _ _ rfl hw6.out; have d25 := BoxC.fPh (K6.out.get 0 _ _ _ rfl); have d23 := BoxC.fOp (K6.out.get 0 _ _ _ rfl); rw [ho.out] at d23; have n25 := BoxC.fPh (K6.out.get 2 _ _ _ rfl); have n21 := BoxC.fIE (K6.out.get 2 _ _ _ rfl); have n23 := BoxC.fOp (K6.out.get 2 _ _ _ rfl); have p1 : y6.cell? ⟨w.heap.size + 1, 1, none⟩ = some (.int .u8 p.Data) := BoxP.fData (p := { p with Mode := 0 }) (K6.out.get 1 _ _ _ rfl); have p6 : y6.cell? ⟨w.heap.size + 1, 6, none⟩ = some (.bool p.DI) := BoxP.fDI (p := { p with Mode := 0 }) (K6.out.get 1 _ _ _ rfl); have p7 : y6.cell? ⟨w.heap.size + 1, 7, none⟩ = some (.bool p.DO) := BoxP.fDO (p := { p with Mode := 0 }) (K6.out.get 1 _ _ _ rfl); have p8 : y6.cell? ⟨w.heap.size + 1, 8, none⟩ = some (.bool p.Int_) := BoxP.fInt (p := { p with Mode := 0 }) (K6.out.get 1 _ _ _ rfl); rw [hph.out] at d25)
    | (go_at_call 11; refine (hD _ (tb'.out.below K6.out.low)).mono ?_; rintro e v7 ⟨rfl, hb7⟩; have K7 : Hid _ := K6.out.below hb7)
    | (refine gen_world (v7.alloc (.cells (dvC zeroD) 37)) (Fm w [(w.heap.size, cpC c, 26), (w.heap.size + 1, pnC { p with Mode := 0 }, 30), (v4.heap.size, cpC N, 26), (v7.heap.size, dvC zeroD, 37)]) (K7.out.new _ _) ?_; intro y8 K8)
    | (refine at_storeD v7.heap.size zeroD D (K8.out.get 3 _ _ _ rfl) _ _ rfl rfl rfl rfl ?_; intro y9 hw9; have K9 : Hid (Fm w [(w.heap.size, cpC c, 26), (w.heap.size + 1, pnC { p with Mode := 0 }, 30), (v4.heap.size, cpC N, 26), (v7.heap.size, dvC D, 37)] y9) := K8.out.put 3 _ _ _ _ rfl hw9.out)
    | (refine gen_world (y9.alloc (.cells (cpC zeroC) 26)) (Fm w [(w.heap.size, cpC c, 26), (w.heap.size + 1, pnC { p with Mode := 0 }, 30), (v4.heap.size, cpC N, 26), (v7.heap.size, dvC D, 37), (y9.heap.size, cpC zeroC, 26)]) (K9.out.new _ _) ?_; intro y10 K10)
    | (refine at_storeC y9.heap.size zeroC c (K10.out.get 4 _ _ _ rfl) _ _ rfl rfl rfl rfl ?_; intro y11 hw11; have K11 : Hid (Fm w [(w.heap.size, cpC c, 26), (w.heap.size + 1, pnC { p with Mode := 0 }, 30), (v4.heap.size, cpC N, 26), (v7.heap.size, dvC D, 37), (y9.heap.size, cpC c, 26)] y11) := K10.out.put 4 _ _ _ _ rfl hw11.out; have c0 := BoxC.r (K11.out.get 0 _ _ _ rfl) 0 (by decide); have x0 := BoxC.r (K11.out.get 4 _ _ _ rfl) 0 (by decide); have f0 := frozen_heap (K11.out.get 4 _ _ _ rfl) 0; have K12 : Hid (Fm w [(w.heap.size, cpC c, 26), (w.heap.size + 1, pnC { p with Mode := 0 }, 30), (v4.heap.size, cpC N, 26), (v7.heap.size, dvC D, 37), (y9.heap.size, cpC (c.up 0), 26)] (y11.setCell ⟨y9.heap.size, 0, none⟩ (.int .u16 (IntKind.u16.wrap (c.R 0 + 1))))) := K11.out.setCell 4 _ _ _ _ rfl 0 _ (cpC_up c 0 (by decide)))
    | (refine gen_world (y11.setCell ⟨y9.heap.size, 0, none⟩ (.int .u16 (IntKind.u16.wrap (c.R 0 + 1)))) (Fm w [(w.heap.size, cpC c, 26), (w.heap.size + 1, pnC { p with Mode := 0 }, 30), (v4.heap.size, cpC N, 26), (v7.heap.size, dvC D, 37), (y9.heap.size, cpC (c.up 0), 26)]) K12.out ?_; intro y12 K13; have m25 := BoxC.fPh (K13.out.get 2 _ _ _ rfl); have x25 := BoxC.fPh (K13.out.get 4 _ _ _ rfl); have f25 := frozen_heap (K13.out.get 4 _ _ _ rfl) 25; have K14 : Hid (Fm w [(w.heap.size, cpC c, 26), (w.heap.size + 1, pnC { p with Mode := 0 }, 30), (v4.heap.size, cpC N, 26), (v7.heap.size, dvC D, 37), (y9.heap.size, cpC { c.up 0 with Ph := N.Ph }, 26)] (y12.setCell ⟨y9.heap.size, 25, none⟩ (.int .u8 (N.Ph : Int)))) := K13.out.setCell 4 _ _ _ _ rfl 25 _ (cpC_setPh (c.up 0) N.Ph))
    | (refine gen_world (y12.setCell ⟨y9.heap.size, 25, none⟩ (.int .u8 (N.Ph : Int))) (Fm w [(w.heap.size, cpC c, 26), (w.heap.size + 1, pnC { p with Mode := 0 }, 30), (v4.heap.size, cpC N, 26), (v7.heap.size, dvC D, 37), (y9.heap.size, cpC { c.up 0 with Ph := N.Ph }, 26)]) K14.out ?_; intro y14 K15; have c0' := BoxC.r (K15.out.get 0 _ _ _ rfl) 0 (by decide); have c25 := BoxC.fPh (K15.out.get 0 _ _ _ rfl); rw [hph.out] at c25; have c23 := BoxC.fOp (K15.out.get 0 _ _ _ rfl); rw [ho.out] at c23; have k25 := BoxC.fPh (K15.out.get 2 _ _ _ rfl); rw [n1.out] at k25; have k21 := BoxC.fIE (K15.out.get 2 _ _ _ rfl); have r6 : y14.cell? ⟨w.heap.size + 1, 6, none⟩ = some (.bool p.DI) := BoxP.fDI (p := { p with Mode := 0 }) (K15.out.get 1 _ _ _ rfl); have r7 : y14.cell? ⟨w.heap.size + 1, 7, none⟩ = some (.bool p.DO) := BoxP.fDO (p := { p with Mode := 0 }) (K15.out.get 1 _ _ _ rfl); have r8 : y14.cell? ⟨w.heap.size + 1, 8, none⟩ = some (.bool p.Int_) := BoxP.fInt (p := { p with Mode := 0 }) (K15.out.get 1 _ _ _ rfl); rw [l1.out] at r6; refine stopAt ?_)
    | (refine at_loadC w.heap.size c (K9.out.get 0 _ _ _ rfl) _ rfl rfl rfl ?_)
    | (refine at_loadC w.heap.size c (K6.out.get 0 _ _ _ rfl) _ rfl rfl rfl ?_)
    | (refine at_loadC w.heap.size c (K4.out.get 0 _ _ _ rfl) _ rfl rfl rfl ?_)
    | (refine at_loadP (w.heap.size + 1) _ (K4.out.get 1 _ _ _ rfl) _ rfl rfl rfl ?_)
    | (refine at_loadC w.heap.size c (K1.out.get 0 _ _ _ rfl) _ rfl rfl rfl ?_))
  refine Stop.go ?_
  refine at_loadC v4.heap.size N (K15.out.get 2 _ _ _ rfl) _ rfl rfl rfl ?_
  try simp only [Act.put, List.setIfInBounds_toArray, List.set_cons_zero, List.set_cons_succ]
  refine at_loadC y9.heap.size _ (K15.out.get 4 _ _ _ rfl) _ rfl rfl rfl ?_
  try simp only [Act.put, List.setIfInBounds_toArray, List.set_cons_zero, List.set_cons_succ]
  refine at_neC N _ hNe.out _ _ _ rfl rfl rfl rfl ?_
  try simp only [Act.put, List.setIfInBounds_toArray, List.set_cons_zero, List.set_cons_succ]
  with_reducible refine at_op (.bool false) ?_ ?_ ?_
  · kernel_rfl
  · go_simp
  try simp only [Act.put, List.setIfInBounds_toArray, List.set_cons_zero, List.set_cons_succ]
  with_reducible refine at_loadDg v7.heap.size D ?_ (.tmp 8) ?_ ?_ ?_ ?_
  · exact K15.out.get 3 _ _ _ rfl
  · kernel_rfl
  · rfl
  · rfl
  try simp only [Act.put, List.setIfInBounds_toArray, List.set_cons_zero, List.set_cons_succ]
  with_reducible refine at_op (.pointer (some ⟨w.heap.size, 0, none⟩)) ?_ ?_ ?_
  · kernel_rfl
  · go_simp
  try simp only [Act.put, List.setIfInBounds_toArray, List.set_cons_zero, List.set_cons_succ]
  with_reducible refine at_op (.pointer (some ⟨w.heap.size, 0, none⟩)) ?_ ?_ ?_
  · kernel_rfl
  · go_simp
  try simp only [Act.put, List.setIfInBounds_toArray, List.set_cons_zero, List.set_cons_succ]
  with_reducible refine at_op (.int .u16 (c.R 0)) ?_ ?_ ?_
  · kernel_rfl
  · go_simp
  try simp only [Act.put, List.setIfInBounds_toArray, List.set_cons_zero, List.set_cons_succ]
  with_reducible refine at_op (.pointer (some ⟨w.heap.size, 25, none⟩)) ?_ ?_ ?_
  · kernel_rfl
  · go_simp
  try simp only [Act.put, List.setIfInBounds_toArray, List.set_cons_zero, List.set_cons_succ]
  with_reducible refine at_op (.int .u8 7) ?_ ?_ ?_
  · kernel_rfl
  · go_simp
  try simp only [Act.put, List.setIfInBounds_toArray, List.set_cons_zero, List.set_cons_succ]
  with_reducible refine at_op (.bool true) ?_ ?_ ?_
  · kernel_rfl
  · go_simp
  try simp only [Act.put, List.setIfInBounds_toArray, List.set_cons_zero, List.set_cons_succ]
  with_reducible refine at_op (.pointer (some ⟨w.heap.size, 25, none⟩)) ?_ ?_ ?_
  · kernel_rfl
  · go_simp
  try simp only [Act.put, List.setIfInBounds_toArray, List.set_cons_zero, List.set_cons_succ]
  with_reducible refine at_op (.int .u8 7) ?_ ?_ ?_
  · kernel_rfl
  · go_simp
  try simp only [Act.put, List.setIfInBounds_toArray, List.set_cons_zero, List.set_cons_succ]
  with_reducible refine at_op (.bool false) ?_ ?_ ?_
  · kernel_rfl
  · go_simp
  try simp only [Act.put, List.setIfInBounds_toArray, List.set_cons_zero, List.set_cons_succ]
  with_reducible refine wantD #[(0, .const (.int .u8 2)), (1, .tmp 54), (2, .tmp 57), (3, .tmp 60), (7, .const (.bool true))] [(0, .int .u8 2), (1, .int .u16 (c.R 0)), (2, .bool true), (3, .bool false), (7, .bool true)] D ?_ ?_ ?_ hbD.out (some 61) ?_ ?_
  · kernel_rfl
  · rfl
  · first | (simp [Act.eval]; done) | (go_simp; done)
  · rfl
  try simp only [Act.put, List.setIfInBounds_toArray, List.set_cons_zero, List.set_cons_succ]
  with_reducible refine at_neD D D rfl (.tmp 51) (.tmp 61) 37 ?_ ?_ ?_ ?_ ?_
  · kernel_rfl
  · rfl
  · rfl
  · rfl
  try simp only [Act.put, List.setIfInBounds_toArray, List.set_cons_zero, List.set_cons_succ]
  with_reducible refine at_op (.bool false) ?_ ?_ ?_
  · kernel_rfl
  · go_simp
  try simp only [Act.put, List.setIfInBounds_toArray, List.set_cons_zero, List.set_cons_succ]
  go_wp2
  all_goals go_ret
  all_goals exact ⟨by first | rfl | simp, K15.out.low⟩

theorem asked_7do (w : World) (c : Cp) (hc : c.wf) (p : Pn) (hp : p.wf) (tb : Tabs w) (hch : checkB c = true) (N : Cp) (hN : goOnM c { p with Mode := 0 } = N) (h : c.Ph = 7) (l1 : p.DI = false) (l2 : p.DO = true) (hPh : N.Ph = 7) : Calls Tryd.prog 5 #[.agg (cpC c), .agg (pnC p)] w fun e w' => e = .returned (.bool true) ∧ Below w.heap.size w w' := by
  have hA := fun v t => lawake v t
  have hM := fun v => lmay v c hc
  rw [hch] at hM
  have hS := fun v t => ystep v c hc { p with Mode := 0 } (pn_wf0 hp) t
  rw [step_run p hch, hN] at hS
  have hD := fun v t => ydrive v c hc t 0 (by decide)
  have zz := zeroVC
  have zd := zeroVD
  have tb' : Hid (Tabs w) := tb
  have hF : Hid (Fm w [(w.heap.size, cpC c, 26), (w.heap.size + 1, pnC p, 30)] ((w.alloc (.cells (cpC c) 26)).alloc (.cells (pnC p) 30))) := Fm.two w c p
  obtain ⟨o, ho⟩ : ∃ o : Int, (c.Op : Int) = o := ⟨_, rfl⟩
  have hph : (c.Ph : Int) = 7 := by omega
  have n1 : (N.Ph : Int) = 7 := by omega
  have hDe : driveM c 0 = (⟨2, c.R 0, true, false, false, 0, 0, true⟩ : Dv) := by unfold driveM runM; rw [if_pos hch]; simp only [h]; rfl
  rw [hDe] at hD
  have hNe : Hid (cpC N = cpC { c.up 0 with Ph := N.Ph }) := by rw [show (Hid (cpC N = cpC { c.up 0 with Ph := N.Ph })) = (cpC N = cpC { c.up 0 with Ph := N.Ph }) from rfl, ← hN]; unfold goOnM; simp only [h]
  obtain ⟨D, hDD⟩ : ∃ D : Dv, (⟨2, c.R 0, true, false, false, 0, 0, true⟩ : Dv) = D := ⟨_, rfl⟩
  rw [hDD] at hD
  have hbD : Hid (Tryd.prog.built 37 [(0, .int .u8 2), (1, .int .u16 (c.R 0)), (2, .bool true), (3, .bool false), (7, .bool true)] = some (dvC D)) := by rw [← hDD]; exact (by kernel_rfl : Tryd.prog.built 37 [(0, .int .u8 2), (1, .int .u16 (c.R 0)), (2, .bool true), (3, .bool false), (7, .bool true)] = some (dvC (⟨2, c.R 0, true, false, false, 0, 0, true⟩ : Dv)))
  replace ho : Hid _ := ho
  replace hph : Hid _ := hph
  replace n1 : Hid _ := n1
  replace l1 : Hid _ := l1
  replace l2 : Hid _ := l2
  clear hc hp tb hch hN h hPh hDe hDD
  go_enter Tryd.func5, Tryd.ntmps5
  go_wp2_with (first
    | (refine gen_world ((w.alloc (.cells (cpC c) 26)).alloc (.cells (pnC p) 30)) (Fm w [(w.heap.size, cpC c, 26), (w.heap.size + 1, pnC p, 30)]) hF.out ?_; intro y K0)
    | (go_at_call 12; refine (hA _ (tb'.out.below K0.out.low)).mono ?_; rintro e v1 ⟨rfl, hb1⟩; have K1 : Hid _ := K0.out.below hb1)
    | (go_at_call 8; refine (hM _).mono ?_; rintro e v2 ⟨rfl, hb2⟩; have K2 : Hid _ := K1.out.below hb2; have dM := BoxP.fMode (K2.out.get 1 _ _ _ rfl); have fM := frozen_heap (K2.out.get 1 _ _ _ rfl) 0; have K3 : Hid (Fm w [(w.heap.size, cpC c, 26), (w.heap.size + 1, pnC { p with Mode := 0 }, 30)] (v2.setCell ⟨w.heap.size + 1, 0, none⟩ (.int .u8 0))) := K2.out.setCell 1 _ _ _ _ rfl 0 _ rfl)
    | (refine gen_world (v2.setCell ⟨w.heap.size + 1, 0, none⟩ (.int .u8 0)) (Fm w [(w.heap.size, cpC c, 26), (w.heap.size + 1, pnC { p with Mode := 0 }, 30)]) K3.out ?_; intro y3 K4)
    | (go_at_call 10; refine (hS _ (tb'.out.below K4.out.low)).mono ?_; rintro e v4 ⟨rfl, hb4⟩; have K5 : Hid _ := K4.out.below hb4)
    | (refine gen_world (v4.alloc (.cells (cpC zeroC) 26)) (Fm w [(w.heap.size, cpC c, 26), (w.heap.size + 1, pnC { p with Mode := 0 }, 30), (v4.heap.size, cpC zeroC, 26)]) (K5.out.new _ _) ?_; intro y5 K55)
    | (refine at_storeC v4.heap.size zeroC N (K55.out.get 2 _ _ _ rfl) _ _ rfl rfl rfl rfl ?_; intro y6 hw6; have K6 : Hid (Fm w [(w.heap.size, cpC c, 26), (w.heap.size + 1, pnC { p with Mode := 0 }, 30), (v4.heap.size, cpC N, 26)] y6) := K55.out.put 2 _ _ _ _ rfl hw6.out; have d25 := BoxC.fPh (K6.out.get 0 _ _ _ rfl); have d23 := BoxC.fOp (K6.out.get 0 _ _ _ rfl); rw [ho.out] at d23; have n25 := BoxC.fPh (K6.out.get 2 _ _ _ rfl); have n21 := BoxC.fIE (K6.out.get 2 _ _ _ rfl); have n23 := BoxC.fOp (K6.out.get 2 _ _ _ rfl); have p1 : y6.cell? ⟨w.heap.size + 1, 1, none⟩ = some (.int .u8 p.Data) := BoxP.fData (p := { p with Mode := 0 }) (K6.out.get 1 _ _ _ rfl); have p6 : y6.cell? ⟨w.heap.size + 1, 6, none⟩ = some (.bool p.DI) := BoxP.fDI (p := { p with Mode := 0 }) (K6.out.get 1 _ _ _ rfl); have p7 : y6.cell? ⟨w.heap.size + 1, 7, none⟩ = some (.bool p.DO) := BoxP.fDO (p := { p with Mode := 0 }) (K6.out.get 1 _ _ _ rfl); have p8 : y6.cell? ⟨w.heap.size + 1, 8, none⟩ = some (.bool p.Int_) := BoxP.fInt (p := { p with Mode := 0 }) (K6.out.get 1 _ _ _ rfl); rw [hph.out] at d25)
    | (go_at_call 11; refine (hD _ (tb'.out.below K6.out.low)).mono ?_; rintro e v7 ⟨rfl, hb7⟩; have K7 : Hid _ := K6.out.below hb7)
    | (refine gen_world (v7.alloc (.cells (dvC zeroD) 37)) (Fm w [(w.heap.size, cpC c, 26), (w.heap.size + 1, pnC { p with Mode := 0 }, 30), (v4.heap.size, cpC N, 26), (v7.heap.size, dvC zeroD, 37)]) (K7.out.new _ _) ?_; intro y8 K8)
    | (refine at_storeD v7.heap.size zeroD D (K8.out.get 3 _ _ _ rfl) _ _ rfl rfl rfl rfl ?_; intro y9 hw9; have K9 : Hid (Fm w [(w.heap.size, cpC c, 26), (w.heap.size + 1, pnC { p with Mode := 0 }, 30), (v4.heap.size, cpC N, 26), (v7.heap.size, dvC D, 37)] y9) := K8.out.put 3 _ _ _ _ rfl hw9.out)
    | (refine gen_world (y9.alloc (.cells (cpC zeroC) 26)) (Fm w [(w.heap.size, cpC c, 26), (w.heap.size + 1, pnC { p with Mode := 0 }, 30), (v4.heap.size, cpC N, 26), (v7.heap.size, dvC D, 37), (y9.heap.size, cpC zeroC, 26)]) (K9.out.new _ _) ?_; intro y10 K10)
    | (refine at_storeC y9.heap.size zeroC c (K10.out.get 4 _ _ _ rfl) _ _ rfl rfl rfl rfl ?_; intro y11 hw11; have K11 : Hid (Fm w [(w.heap.size, cpC c, 26), (w.heap.size + 1, pnC { p with Mode := 0 }, 30), (v4.heap.size, cpC N, 26), (v7.heap.size, dvC D, 37), (y9.heap.size, cpC c, 26)] y11) := K10.out.put 4 _ _ _ _ rfl hw11.out; have c0 := BoxC.r (K11.out.get 0 _ _ _ rfl) 0 (by decide); have x0 := BoxC.r (K11.out.get 4 _ _ _ rfl) 0 (by decide); have f0 := frozen_heap (K11.out.get 4 _ _ _ rfl) 0; have K12 : Hid (Fm w [(w.heap.size, cpC c, 26), (w.heap.size + 1, pnC { p with Mode := 0 }, 30), (v4.heap.size, cpC N, 26), (v7.heap.size, dvC D, 37), (y9.heap.size, cpC (c.up 0), 26)] (y11.setCell ⟨y9.heap.size, 0, none⟩ (.int .u16 (IntKind.u16.wrap (c.R 0 + 1))))) := K11.out.setCell 4 _ _ _ _ rfl 0 _ (cpC_up c 0 (by decide)))
    | (refine gen_world (y11.setCell ⟨y9.heap.size, 0, none⟩ (.int .u16 (IntKind.u16.wrap (c.R 0 + 1)))) (Fm w [(w.heap.size, cpC c, 26), (w.heap.size + 1, pnC { p with Mode := 0 }, 30), (v4.heap.size, cpC N, 26), (v7.heap.size, dvC D, 37), (y9.heap.size, cpC (c.up 0), 26)]) K12.out ?_; intro y12 K13; have m25 := BoxC.fPh (K13.out.get 2 _ _ _ rfl); have x25 := BoxC.fPh (K13.out.get 4 _ _ _ rfl); have f25 := frozen_heap (K13.out.get 4 _ _ _ rfl) 25; have K14 : Hid (Fm w [(w.heap.size, cpC c, 26), (w.heap.size + 1, pnC { p with Mode := 0 }, 30), (v4.heap.size, cpC N, 26), (v7.heap.size, dvC D, 37), (y9.heap.size, cpC { c.up 0 with Ph := N.Ph }, 26)] (y12.setCell ⟨y9.heap.size, 25, none⟩ (.int .u8 (N.Ph : Int)))) := K13.out.setCell 4 _ _ _ _ rfl 25 _ (cpC_setPh (c.up 0) N.Ph))
    | (refine gen_world (y12.setCell ⟨y9.heap.size, 25, none⟩ (.int .u8 (N.Ph : Int))) (Fm w [(w.heap.size, cpC c, 26), (w.heap.size + 1, pnC { p with Mode := 0 }, 30), (v4.heap.size, cpC N, 26), (v7.heap.size, dvC D, 37), (y9.heap.size, cpC { c.up 0 with Ph := N.Ph }, 26)]) K14.out ?_; intro y14 K15; have c0' := BoxC.r (K15.out.get 0 _ _ _ rfl) 0 (by decide); have c25 := BoxC.fPh (K15.out.get 0 _ _ _ rfl); rw [hph.out] at c25; have c23 := BoxC.fOp (K15.out.get 0 _ _ _ rfl); rw [ho.out] at c23; have k25 := BoxC.fPh (K15.out.get 2 _ _ _ rfl); rw [n1.out] at k25; have k21 := BoxC.fIE (K15.out.get 2 _ _ _ rfl); have r6 : y14.cell? ⟨w.heap.size + 1, 6, none⟩ = some (.bool p.DI) := BoxP.fDI (p := { p with Mode := 0 }) (K15.out.get 1 _ _ _ rfl); have r7 : y14.cell? ⟨w.heap.size + 1, 7, none⟩ = some (.bool p.DO) := BoxP.fDO (p := { p with Mode := 0 }) (K15.out.get 1 _ _ _ rfl); have r8 : y14.cell? ⟨w.heap.size + 1, 8, none⟩ = some (.bool p.Int_) := BoxP.fInt (p := { p with Mode := 0 }) (K15.out.get 1 _ _ _ rfl); rw [l1.out] at r6; rw [l2.out] at r7; refine stopAt ?_)
    | (refine at_loadC w.heap.size c (K9.out.get 0 _ _ _ rfl) _ rfl rfl rfl ?_)
    | (refine at_loadC w.heap.size c (K6.out.get 0 _ _ _ rfl) _ rfl rfl rfl ?_)
    | (refine at_loadC w.heap.size c (K4.out.get 0 _ _ _ rfl) _ rfl rfl rfl ?_)
    | (refine at_loadP (w.heap.size + 1) _ (K4.out.get 1 _ _ _ rfl) _ rfl rfl rfl ?_)
    | (refine at_loadC w.heap.size c (K1.out.get 0 _ _ _ rfl) _ rfl rfl rfl ?_))
  refine Stop.go ?_
  refine at_loadC v4.heap.size N (K15.out.get 2 _ _ _ rfl) _ rfl rfl rfl ?_
  try simp only [Act.put, List.setIfInBounds_toArray, List.set_cons_zero, List.set_cons_succ]
  refine at_loadC y9.heap.size _ (K15.out.get 4 _ _ _ rfl) _ rfl rfl rfl ?_
  try simp only [Act.put, List.setIfInBounds_toArray, List.set_cons_zero, List.set_cons_succ]
  refine at_neC N _ hNe.out _ _ _ rfl rfl rfl rfl ?_
  try simp only [Act.put, List.setIfInBounds_toArray, List.set_cons_zero, List.set_cons_succ]
  with_reducible refine at_op (.bool false) ?_ ?_ ?_
  · kernel_rfl
  · go_simp
  try simp only [Act.put, List.setIfInBounds_toArray, List.set_cons_zero, List.set_cons_succ]
  with_reducible refine at_loadDg v7.heap.size D ?_ (.tmp 8) ?_ ?_ ?_ ?_
  · exact K15.out.get 3 _ _ _ rfl
  · kernel_rfl
  · rfl
  · rfl
  try simp only [Act.put, List.setIfInBounds_toArray, List.set_cons_zero, List.set_cons_succ]
  with_reducible refine at_op (.pointer (some ⟨w.heap.size, 0, none⟩)) ?_ ?_ ?_
  · kernel_rfl
  · go_simp
  try simp only [Act.put, List.setIfInBounds_toArray, List.set_cons_zero, List.set_cons_succ]
  with_reducible refine at_op (.pointer (some ⟨w.heap.size, 0, none⟩)) ?_ ?_ ?_
  · kernel_rfl
  · go_simp
  try simp only [Act.put, List.setIfInBounds_toArray, List.set_cons_zero, List.set_cons_succ]
  with_reducible refine at_op (.int .u16 (c.R 0)) ?_ ?_ ?_
  · kernel_rfl
  · go_simp
  try simp only [Act.put, List.setIfInBounds_toArray, List.set_cons_zero, List.set_cons_succ]
  with_reducible refine at_op (.pointer (some ⟨w.heap.size, 25, none⟩)) ?_ ?_ ?_
  · kernel_rfl
  · go_simp
  try simp only [Act.put, List.setIfInBounds_toArray, List.set_cons_zero, List.set_cons_succ]
  with_reducible refine at_op (.int .u8 7) ?_ ?_ ?_
  · kernel_rfl
  · go_simp
  try simp only [Act.put, List.setIfInBounds_toArray, List.set_cons_zero, List.set_cons_succ]
  with_reducible refine at_op (.bool true) ?_ ?_ ?_
  · kernel_rfl
  · go_simp
  try simp only [Act.put, List.setIfInBounds_toArray, List.set_cons_zero, List.set_cons_succ]
  with_reducible refine at_op (.pointer (some ⟨w.heap.size, 25, none⟩)) ?_ ?_ ?_
  · kernel_rfl
  · go_simp
  try simp only [Act.put, List.setIfInBounds_toArray, List.set_cons_zero, List.set_cons_succ]
  with_reducible refine at_op (.int .u8 7) ?_ ?_ ?_
  · kernel_rfl
  · go_simp
  try simp only [Act.put, List.setIfInBounds_toArray, List.set_cons_zero, List.set_cons_succ]
  with_reducible refine at_op (.bool false) ?_ ?_ ?_
  · kernel_rfl
  · go_simp
  try simp only [Act.put, List.setIfInBounds_toArray, List.set_cons_zero, List.set_cons_succ]
  with_reducible refine wantD #[(0, .const (.int .u8 2)), (1, .tmp 54), (2, .tmp 57), (3, .tmp 60), (7, .const (.bool true))] [(0, .int .u8 2), (1, .int .u16 (c.R 0)), (2, .bool true), (3, .bool false), (7, .bool true)] D ?_ ?_ ?_ hbD.out (some 61) ?_ ?_
  · kernel_rfl
  · rfl
  · first | (simp [Act.eval]; done) | (go_simp; done)
  · rfl
  try simp only [Act.put, List.setIfInBounds_toArray, List.set_cons_zero, List.set_cons_succ]
  with_reducible refine at_neD D D rfl (.tmp 51) (.tmp 61) 37 ?_ ?_ ?_ ?_ ?_
  · kernel_rfl
  · rfl
  · rfl
  · rfl
  try simp only [Act.put, List.setIfInBounds_toArray, List.set_cons_zero, List.set_cons_succ]
  with_reducible refine at_op (.bool false) ?_ ?_ ?_
  · kernel_rfl
  · go_simp
  try simp only [Act.put, List.setIfInBounds_toArray, List.set_cons_zero, List.set_cons_succ]
  go_wp2
  all_goals go_ret
  all_goals exact ⟨by first | rfl | simp, K15.out.low⟩

theorem asked_7in (w : World) (c : Cp) (hc : c.wf) (p : Pn) (hp : p.wf) (tb : Tabs w) (hch : checkB c = true) (N : Cp) (hN : goOnM c { p with Mode := 0 } = N) (h : c.Ph = 7) (l1 : p.DI = false) (l2 : p.DO = false) (l3 : p.Int_ = true) (l4 : N.IE = true) (hPh : N.Ph = 8) : Calls Tryd.prog 5 #[.agg (cpC c), .agg (pnC p)] w fun e w' => e = .returned (.bool true) ∧ Below w.heap.size w w' := by
  have hA := fun v t => lawake v t
  have hM := fun v => lmay v c hc
  rw [hch] at hM
  have hS := fun v t => ystep v c hc { p with Mode := 0 } (pn_wf0 hp) t
  rw [step_run p hch, hN] at hS
  have hD := fun v t => ydrive v c hc t 0 (by decide)
  have zz := zeroVC
  have zd := zeroVD
  have tb' : Hid (Tabs w) := tb
  have hF : Hid (Fm w [(w.heap.size, cpC c, 26), (w.heap.size + 1, pnC p, 30)] ((w.alloc (.cells (cpC c) 26)).alloc (.cells (pnC p) 30))) := Fm.two w c p
  obtain ⟨o, ho⟩ : ∃ o : Int, (c.Op : Int) = o := ⟨_, rfl⟩
  have hph : (c.Ph : Int) = 7 := by omega
  have n1 : (N.Ph : Int) = 8 := by omega
  have hDe : driveM c 0 = (⟨2, c.R 0, true, false, false, 0, 0, true⟩ : Dv) := by unfold driveM runM; rw [if_pos hch]; simp only [h]; rfl
  rw [hDe] at hD
  have hNe : Hid (cpC N = cpC { c.up 0 with Ph := N.Ph }) := by rw [show (Hid (cpC N = cpC { c.up 0 with Ph := N.Ph })) = (cpC N = cpC { c.up 0 with Ph := N.Ph }) from rfl, ← hN]; unfold goOnM; simp only [h]
  obtain ⟨D, hDD⟩ : ∃ D : Dv, (⟨2, c.R 0, true, false, false, 0, 0, true⟩ : Dv) = D := ⟨_, rfl⟩
  rw [hDD] at hD
  have hbD : Hid (Tryd.prog.built 37 [(0, .int .u8 2), (1, .int .u16 (c.R 0)), (2, .bool true), (3, .bool false), (7, .bool true)] = some (dvC D)) := by rw [← hDD]; exact (by kernel_rfl : Tryd.prog.built 37 [(0, .int .u8 2), (1, .int .u16 (c.R 0)), (2, .bool true), (3, .bool false), (7, .bool true)] = some (dvC (⟨2, c.R 0, true, false, false, 0, 0, true⟩ : Dv)))
  replace ho : Hid _ := ho
  replace hph : Hid _ := hph
  replace n1 : Hid _ := n1
  replace l1 : Hid _ := l1
  replace l2 : Hid _ := l2
  replace l3 : Hid _ := l3
  replace l4 : Hid _ := l4
  clear hc hp tb hch hN h hPh hDe hDD
  go_enter Tryd.func5, Tryd.ntmps5
  go_wp2_with (first
    | (refine gen_world ((w.alloc (.cells (cpC c) 26)).alloc (.cells (pnC p) 30)) (Fm w [(w.heap.size, cpC c, 26), (w.heap.size + 1, pnC p, 30)]) hF.out ?_; intro y K0)
    | (go_at_call 12; refine (hA _ (tb'.out.below K0.out.low)).mono ?_; rintro e v1 ⟨rfl, hb1⟩; have K1 : Hid _ := K0.out.below hb1)
    | (go_at_call 8; refine (hM _).mono ?_; rintro e v2 ⟨rfl, hb2⟩; have K2 : Hid _ := K1.out.below hb2; have dM := BoxP.fMode (K2.out.get 1 _ _ _ rfl); have fM := frozen_heap (K2.out.get 1 _ _ _ rfl) 0; have K3 : Hid (Fm w [(w.heap.size, cpC c, 26), (w.heap.size + 1, pnC { p with Mode := 0 }, 30)] (v2.setCell ⟨w.heap.size + 1, 0, none⟩ (.int .u8 0))) := K2.out.setCell 1 _ _ _ _ rfl 0 _ rfl)
    | (refine gen_world (v2.setCell ⟨w.heap.size + 1, 0, none⟩ (.int .u8 0)) (Fm w [(w.heap.size, cpC c, 26), (w.heap.size + 1, pnC { p with Mode := 0 }, 30)]) K3.out ?_; intro y3 K4)
    | (go_at_call 10; refine (hS _ (tb'.out.below K4.out.low)).mono ?_; rintro e v4 ⟨rfl, hb4⟩; have K5 : Hid _ := K4.out.below hb4)
    | (refine gen_world (v4.alloc (.cells (cpC zeroC) 26)) (Fm w [(w.heap.size, cpC c, 26), (w.heap.size + 1, pnC { p with Mode := 0 }, 30), (v4.heap.size, cpC zeroC, 26)]) (K5.out.new _ _) ?_; intro y5 K55)
    | (refine at_storeC v4.heap.size zeroC N (K55.out.get 2 _ _ _ rfl) _ _ rfl rfl rfl rfl ?_; intro y6 hw6; have K6 : Hid (Fm w [(w.heap.size, cpC c, 26), (w.heap.size + 1, pnC { p with Mode := 0 }, 30), (v4.heap.size, cpC N, 26)] y6) := K55.out.put 2 _ _ _ _ rfl hw6.out; have d25 := BoxC.fPh (K6.out.get 0 _ _ _ rfl); have d23 := BoxC.fOp (K6.out.get 0 _ _ _ rfl); rw [ho.out] at d23; have n25 := BoxC.fPh (K6.out.get 2 _ _ _ rfl); have n21 := BoxC.fIE (K6.out.get 2 _ _ _ rfl); have n23 := BoxC.fOp (K6.out.get 2 _ _ _ rfl); have p1 : y6.cell? ⟨w.heap.size + 1, 1, none⟩ = some (.int .u8 p.Data) := BoxP.fData (p := { p with Mode := 0 }) (K6.out.get 1 _ _ _ rfl); have p6 : y6.cell? ⟨w.heap.size + 1, 6, none⟩ = some (.bool p.DI) := BoxP.fDI (p := { p with Mode := 0 }) (K6.out.get 1 _ _ _ rfl); have p7 : y6.cell? ⟨w.heap.size + 1, 7, none⟩ = some (.bool p.DO) := BoxP.fDO (p := { p with Mode := 0 }) (K6.out.get 1 _ _ _ rfl); have p8 : y6.cell? ⟨w.heap.size + 1, 8, none⟩ = some (.bool p.Int_) := BoxP.fInt (p := { p with Mode := 0 }) (K6.out.get 1 _ _ _ rfl); rw [hph.out] at d25)
    | (go_at_call 11; refine (hD _ (tb'.out.below K6.out.low)).mono ?_; rintro e v7 ⟨rfl, hb7⟩; have K7 : Hid _ := K6.out.below hb7)
    | (refine gen_world (v7.alloc (.cells (dvC zeroD) 37)) (Fm w [(w.heap.size, cpC c, 26), (w.heap.size + 1, pnC { p with Mode := 0 }, 30), (v4.heap.size, cpC N, 26), (v7.heap.size, dvC zeroD, 37)]) (K7.out.new _ _) ?_; intro y8 K8)
    | (refine at_storeD v7.heap.size zeroD D (K8.out.get 3 _ _ _ rfl) _ _ rfl rfl rfl rfl ?_; intro y9 hw9; have K9 : Hid (Fm w [(w.heap.size, cpC c, 26), (w.heap.size + 1, pnC { p with Mode := 0 }, 30), (v4.heap.size, cpC N, 26), (v7.heap.size, dvC D, 37)] y9) := K8.out.put 3 _ _ _ _ rfl hw9.out)
    | (refine gen_world (y9.alloc (.cells (cpC zeroC) 26)) (Fm w [(w.heap.size, cpC c, 26), (w.heap.size + 1, pnC { p with Mode := 0 }, 30), (v4.heap.size, cpC N, 26), (v7.heap.size, dvC D, 37), (y9.heap.size, cpC zeroC, 26)]) (K9.out.new _ _) ?_; intro y10 K10)
    | (refine at_storeC y9.heap.size zeroC c (K10.out.get 4 _ _ _ rfl) _ _ rfl rfl rfl rfl ?_; intro y11 hw11; have K11 : Hid (Fm w [(w.heap.size, cpC c, 26), (w.heap.size + 1, pnC { p with Mode := 0 }, 30), (v4.heap.size, cpC N, 26), (v7.heap.size, dvC D, 37), (y9.heap.size, cpC c, 26)] y11) := K10.out.put 4 _ _ _ _ rfl hw11.out; have c0 := BoxC.r (K11.out.get 0 _ _ _ rfl) 0 (by decide); have x0 := BoxC.r (K11.out.get 4 _ _ _ rfl) 0 (by decide); have f0 := frozen_heap (K11.out.get 4 _ _ _ rfl) 0; have K12 : Hid (Fm w [(w.heap.size, cpC c, 26), (w.heap.size + 1, pnC { p with Mode := 0 }, 30), (v4.heap.size, cpC N, 26), (v7.heap.size, dvC D, 37), (y9.heap.size, cpC (c.up 0), 26)] (y11.setCell ⟨y9.heap.size, 0, none⟩ (.int .u16 (IntKind.u16.wrap (c.R 0 + 1))))) := K11.out.setCell 4 _ _ _ _ rfl 0 _ (cpC_up c 0 (by decide)))
    | (refine gen_world (y11.setCell ⟨y9.heap.size, 0, none⟩ (.int .u16 (IntKind.u16.wrap (c.R 0 + 1)))) (Fm w [(w.heap.size, cpC c, 26), (w.heap.size + 1, pnC { p with Mode := 0 }, 30), (v4.heap.size, cpC N, 26), (v7.heap.size, dvC D, 37), (y9.heap.size, cpC (c.up 0), 26)]) K12.out ?_; intro y12 K13; have m25 := BoxC.fPh (K13.out.get 2 _ _ _ rfl); have x25 := BoxC.fPh (K13.out.get 4 _ _ _ rfl); have f25 := frozen_heap (K13.out.get 4 _ _ _ rfl) 25; have K14 : Hid (Fm w [(w.heap.size, cpC c, 26), (w.heap.size + 1, pnC { p with Mode := 0 }, 30), (v4.heap.size, cpC N, 26), (v7.heap.size, dvC D, 37), (y9.heap.size, cpC { c.up 0 with Ph := N.Ph }, 26)] (y12.setCell ⟨y9.heap.size, 25, none⟩ (.int .u8 (N.Ph : Int)))) := K13.out.setCell 4 _ _ _ _ rfl 25 _ (cpC_setPh (c.up 0) N.Ph))
    | (refine gen_world (y12.setCell ⟨y9.heap.size, 25, none⟩ (.int .u8 (N.Ph : Int))) (Fm w [(w.heap.size, cpC c, 26), (w.heap.size + 1, pnC { p with Mode := 0 }, 30), (v4.heap.size, cpC N, 26), (v7.heap.size, dvC D, 37), (y9.heap.size, cpC { c.up 0 with Ph := N.Ph }, 26)]) K14.out ?_; intro y14 K15; have c0' := BoxC.r (K15.out.get 0 _ _ _ rfl) 0 (by decide); have c25 := BoxC.fPh (K15.out.get 0 _ _ _ rfl); rw [hph.out] at c25; have c23 := BoxC.fOp (K15.out.get 0 _ _ _ rfl); rw [ho.out] at c23; have k25 := BoxC.fPh (K15.out.get 2 _ _ _ rfl); rw [n1.out] at k25; have k21 := BoxC.fIE (K15.out.get 2 _ _ _ rfl); have r6 : y14.cell? ⟨w.heap.size + 1, 6, none⟩ = some (.bool p.DI) := BoxP.fDI (p := { p with Mode := 0 }) (K15.out.get 1 _ _ _ rfl); have r7 : y14.cell? ⟨w.heap.size + 1, 7, none⟩ = some (.bool p.DO) := BoxP.fDO (p := { p with Mode := 0 }) (K15.out.get 1 _ _ _ rfl); have r8 : y14.cell? ⟨w.heap.size + 1, 8, none⟩ = some (.bool p.Int_) := BoxP.fInt (p := { p with Mode := 0 }) (K15.out.get 1 _ _ _ rfl); rw [l1.out] at r6; rw [l2.out] at r7; rw [l3.out] at r8; rw [l4.out] at k21; refine stopAt ?_)
    | (refine at_loadC w.heap.size c (K9.out.get 0 _ _ _ rfl) _ rfl rfl rfl ?_)
    | (refine at_loadC w.heap.size c (K6.out.get 0 _ _ _ rfl) _ rfl rfl rfl ?_)
    | (refine at_loadC w.heap.size c (K4.out.get 0 _ _ _ rfl) _ rfl rfl rfl ?_)
    | (refine at_loadP (w.heap.size + 1) _ (K4.out.get 1 _ _ _ rfl) _ rfl rfl rfl ?_)
    | (refine at_loadC w.heap.size c (K1.out.get 0 _ _ _ rfl) _ rfl rfl rfl ?_))
  refine Stop.go ?_
  refine at_loadC v4.heap.size N (K15.out.get 2 _ _ _ rfl) _ rfl rfl rfl ?_
  try simp only [Act.put, List.setIfInBounds_toArray, List.set_cons_zero, List.set_cons_succ]
  refine at_loadC y9.heap.size _ (K15.out.get 4 _ _ _ rfl) _ rfl rfl rfl ?_
  try simp only [Act.put, List.setIfInBounds_toArray, List.set_cons_zero, List.set_cons_succ]
  refine at_neC N _ hNe.out _ _ _ rfl rfl rfl rfl ?_
  try simp only [Act.put, List.setIfInBounds_toArray, List.set_cons_zero, List.set_cons_succ]
  with_reducible refine at_op (.bool false) ?_ ?_ ?_
  · kernel_rfl
  · go_simp
  try simp only [Act.put, List.setIfInBounds_toArray, List.set_cons_zero, List.set_cons_succ]
  with_reducible refine at_loadDg v7.heap.size D ?_ (.tmp 8) ?_ ?_ ?_ ?_
  · exact K15.out.get 3 _ _ _ rfl
  · kernel_rfl
  · rfl
  · rfl
  try simp only [Act.put, List.setIfInBounds_toArray, List.set_cons_zero, List.set_cons_succ]
  with_reducible refine at_op (.pointer (some ⟨w.heap.size, 0, none⟩)) ?_ ?_ ?_
  · kernel_rfl
  · go_simp
  try simp only [Act.put, List.setIfInBounds_toArray, List.set_cons_zero, List.set_cons_succ]
  with_reducible refine at_op (.pointer (some ⟨w.heap.size, 0, none⟩)) ?_ ?_ ?_
  · kernel_rfl
  · go_simp
  try simp only [Act.put, List.setIfInBounds_toArray, List.set_cons_zero, List.set_cons_succ]
  with_reducible refine at_op (.int .u16 (c.R 0)) ?_ ?_ ?_
  · kernel_rfl
  · go_simp
  try simp only [Act.put, List.setIfInBounds_toArray, List.set_cons_zero, List.set_cons_succ]
  with_reducible refine at_op (.pointer (some ⟨w.heap.size, 25, none⟩)) ?_ ?_ ?_
  · kernel_rfl
  · go_simp
  try simp only [Act.put, List.setIfInBounds_toArray, List.set_cons_zero, List.set_cons_succ]
  with_reducible refine at_op (.int .u8 7) ?_ ?_ ?_
  · kernel_rfl
  · go_simp
  try simp only [Act.put, List.setIfInBounds_toArray, List.set_cons_zero, List.set_cons_succ]
  with_reducible refine at_op (.bool true) ?_ ?_ ?_
  · kernel_rfl
  · go_simp
  try simp only [Act.put, List.setIfInBounds_toArray, List.set_cons_zero, List.set_cons_succ]
  with_reducible refine at_op (.pointer (some ⟨w.heap.size, 25, none⟩)) ?_ ?_ ?_
  · kernel_rfl
  · go_simp
  try simp only [Act.put, List.setIfInBounds_toArray, List.set_cons_zero, List.set_cons_succ]
  with_reducible refine at_op (.int .u8 7) ?_ ?_ ?_
  · kernel_rfl
  · go_simp
  try simp only [Act.put, List.setIfInBounds_toArray, List.set_cons_zero, List.set_cons_succ]
  with_reducible refine at_op (.bool false) ?_ ?_ ?_
  · kernel_rfl
  · go_simp
  try simp only [Act.put, List.setIfInBounds_toArray, List.set_cons_zero, List.set_cons_succ]
  with_reducible refine wantD #[(0, .const (.int .u8 2)), (1, .tmp 54), (2, .tmp 57), (3, .tmp 60), (7, .const (.bool true))] [(0, .int .u8 2), (1, .int .u16 (c.R 0)), (2, .bool true), (3, .bool false), (7, .bool true)] D ?_ ?_ ?_ hbD.out (some 61) ?_ ?_
  · kernel_rfl
  · rfl
  · first | (simp [Act.eval]; done) | (go_simp; done)
  · rfl
  try simp only [Act.put, List.setIfInBounds_toArray, List.set_cons_zero, List.set_cons_succ]
  with_reducible refine at_neD D D rfl (.tmp 51) (.tmp 61) 37 ?_ ?_ ?_ ?_ ?_
  · kernel_rfl
  · rfl
  · rfl
  · rfl
  try simp only [Act.put, List.setIfInBounds_toArray, List.set_cons_zero, List.set_cons_succ]
  with_reducible refine at_op (.bool false) ?_ ?_ ?_
  · kernel_rfl
  · go_simp
  try simp only [Act.put, List.setIfInBounds_toArray, List.set_cons_zero, List.set_cons_succ]
  go_wp2
  all_goals go_ret
  all_goals exact ⟨by first | rfl | simp, K15.out.low⟩

theorem asked_7ie (w : World) (c : Cp) (hc : c.wf) (p : Pn) (hp : p.wf) (tb : Tabs w) (hch : checkB c = true) (N : Cp) (hN : goOnM c { p with Mode := 0 } = N) (h : c.Ph = 7) (l1 : p.DI = false) (l2 : p.DO = false) (l3 : p.Int_ = true) (l4 : N.IE = false) (hPh : N.Ph = 1) : Calls Tryd.prog 5 #[.agg (cpC c), .agg (pnC p)] w fun e w' => e = .returned (.bool true) ∧ Below w.heap.size w w' := by
  have hA := fun v t => lawake v t
  have hM := fun v => lmay v c hc
  rw [hch] at hM
  have hS := fun v t => ystep v c hc { p with Mode := 0 } (pn_wf0 hp) t
  rw [step_run p hch, hN] at hS
  have hD := fun v t => ydrive v c hc t 0 (by decide)
  have zz := zeroVC
  have zd := zeroVD
  have tb' : Hid (Tabs w) := tb
  have hF : Hid (Fm w [(w.heap.size, cpC c, 26), (w.heap.size + 1, pnC p, 30)] ((w.alloc (.cells (cpC c) 26)).alloc (.cells (pnC p) 30))) := Fm.two w c p
  obtain ⟨o, ho⟩ : ∃ o : Int, (c.Op : Int) = o := ⟨_, rfl⟩
  have hph : (c.Ph : Int) = 7 := by omega
  have n1 : (N.Ph : Int) = 1 := by omega
  have hDe : driveM c 0 = (⟨2, c.R 0, true, false, false, 0, 0, true⟩ : Dv) := by unfold driveM runM; rw [if_pos hch]; simp only [h]; rfl
  rw [hDe] at hD
  have hNe : Hid (cpC N = cpC { c.up 0 with Ph := N.Ph }) := by rw [show (Hid (cpC N = cpC { c.up 0 with Ph := N.Ph })) = (cpC N = cpC { c.up 0 with Ph := N.Ph }) from rfl, ← hN]; unfold goOnM; simp only [h]
  obtain ⟨D, hDD⟩ : ∃ D : Dv, (⟨2, c.R 0, true, false, false, 0, 0, true⟩ : Dv) = D := ⟨_, rfl⟩
  rw [hDD] at hD
  have hbD : Hid (Tryd.prog.built 37 [(0, .int .u8 2), (1, .int .u16 (c.R 0)), (2, .bool true), (3, .bool false), (7, .bool true)] = some (dvC D)) := by rw [← hDD]; exact (by kernel_rfl : Tryd.prog.built 37 [(0, .int .u8 2), (1, .int .u16 (c.R 0)), (2, .bool true), (3, .bool false), (7, .bool true)] = some (dvC (⟨2, c.R 0, true, false, false, 0, 0, true⟩ : Dv)))
  replace ho : Hid _ := ho
  replace hph : Hid _ := hph
  replace n1 : Hid _ := n1
  replace l1 : Hid _ := l1
  replace l2 : Hid _ := l2
  replace l3 : Hid _ := l3
  replace l4 : Hid _ := l4
  clear hc hp tb hch hN h hPh hDe hDD
  go_enter Tryd.func5, Tryd.ntmps5
  go_wp2_with (first
    | (refine gen_world ((w.alloc (.cells (cpC c) 26)).alloc (.cells (pnC p) 30)) (Fm w [(w.heap.size, cpC c, 26), (w.heap.size + 1, pnC p, 30)]) hF.out ?_; intro y K0)
    | (go_at_call 12; refine (hA _ (tb'.out.below K0.out.low)).mono ?_; rintro e v1 ⟨rfl, hb1⟩; have K1 : Hid _ := K0.out.below hb1)
    | (go_at_call 8; refine (hM _).mono ?_; rintro e v2 ⟨rfl, hb2⟩; have K2 : Hid _ := K1.out.below hb2; have dM := BoxP.fMode (K2.out.get 1 _ _ _ rfl); have fM := frozen_heap (K2.out.get 1 _ _ _ rfl) 0; have K3 : Hid (Fm w [(w.heap.size, cpC c, 26), (w.heap.size + 1, pnC { p with Mode := 0 }, 30)] (v2.setCell ⟨w.heap.size + 1, 0, none⟩ (.int .u8 0))) := K2.out.setCell 1 _ _ _ _ rfl 0 _ rfl)
    | (refine gen_world (v2.setCell ⟨w.heap.size + 1, 0, none⟩ (.int .u8 0)) (Fm w [(w.heap.size, cpC c, 26), (w.heap.size + 1, pnC { p with Mode := 0 }, 30)]) K3.out ?_; intro y3 K4)
    | (go_at_call 10; refine (hS _ (tb'.out.below K4.out.low)).mono ?_; rintro e v4 ⟨rfl, hb4⟩; have K5 : Hid _ := K4.out.below hb4)
    | (refine gen_world (v4.alloc (.cells (cpC zeroC) 26)) (Fm w [(w.heap.size, cpC c, 26), (w.heap.size + 1, pnC { p with Mode := 0 }, 30), (v4.heap.size, cpC zeroC, 26)]) (K5.out.new _ _) ?_; intro y5 K55)
    | (refine at_storeC v4.heap.size zeroC N (K55.out.get 2 _ _ _ rfl) _ _ rfl rfl rfl rfl ?_; intro y6 hw6; have K6 : Hid (Fm w [(w.heap.size, cpC c, 26), (w.heap.size + 1, pnC { p with Mode := 0 }, 30), (v4.heap.size, cpC N, 26)] y6) := K55.out.put 2 _ _ _ _ rfl hw6.out; have d25 := BoxC.fPh (K6.out.get 0 _ _ _ rfl); have d23 := BoxC.fOp (K6.out.get 0 _ _ _ rfl); rw [ho.out] at d23; have n25 := BoxC.fPh (K6.out.get 2 _ _ _ rfl); have n21 := BoxC.fIE (K6.out.get 2 _ _ _ rfl); have n23 := BoxC.fOp (K6.out.get 2 _ _ _ rfl); have p1 : y6.cell? ⟨w.heap.size + 1, 1, none⟩ = some (.int .u8 p.Data) := BoxP.fData (p := { p with Mode := 0 }) (K6.out.get 1 _ _ _ rfl); have p6 : y6.cell? ⟨w.heap.size + 1, 6, none⟩ = some (.bool p.DI) := BoxP.fDI (p := { p with Mode := 0 }) (K6.out.get 1 _ _ _ rfl); have p7 : y6.cell? ⟨w.heap.size + 1, 7, none⟩ = some (.bool p.DO) := BoxP.fDO (p := { p with Mode := 0 }) (K6.out.get 1 _ _ _ rfl); have p8 : y6.cell? ⟨w.heap.size + 1, 8, none⟩ = some (.bool p.Int_) := BoxP.fInt (p := { p with Mode := 0 }) (K6.out.get 1 _ _ _ rfl); rw [hph.out] at d25)
    | (go_at_call 11; refine (hD _ (tb'.out.below K6.out.low)).mono ?_; rintro e v7 ⟨rfl, hb7⟩; have K7 : Hid _ := K6.out.below hb7)
    | (refine gen_world (v7.alloc (.cells (dvC zeroD) 37)) (Fm w [(w.heap.size, cpC c, 26), (w.heap.size + 1, pnC { p with Mode := 0 }, 30), (v4.heap.size, cpC N, 26), (v7.heap.size, dvC zeroD, 37)]) (K7.out.new _ _) ?_; intro y8 K8)
    | (refine at_storeD v7.heap.size zeroD D (K8.out.get 3 _ _ _ rfl) _ _ rfl rfl rfl rfl ?_; intro y9 hw9; have K9 : Hid (Fm w [(w.heap.size, cpC c, 26), (w.heap.size + 1, pnC { p with Mode := 0 }, 30), (v4.heap.size, cpC N, 26), (v7.heap.size, dvC D, 37)] y9) := K8.out.put 3 _ _ _ _ rfl hw9.out)
    | (refine gen_world (y9.alloc (.cells (cpC zeroC) 26)) (Fm w [(w.heap.size, cpC c, 26), (w.heap.size + 1, pnC { p with Mode := 0 }, 30), (v4.heap.size, cpC N, 26), (v7.heap.size, dvC D, 37), (y9.heap.size, cpC zeroC, 26)]) (K9.out.new _ _) ?_; intro y10 K10)
    | (refine at_storeC y9.heap.size zeroC c (K10.out.get 4 _ _ _ rfl) _ _ rfl rfl rfl rfl ?_; intro y11 hw11; have K11 : Hid (Fm w [(w.heap.size, cpC c, 26), (w.heap.size + 1, pnC { p with Mode := 0 }, 30), (v4.heap.size, cpC N, 26), (v7.heap.size, dvC D, 37), (y9.heap.size, cpC c, 26)] y11) := K10.out.put 4 _ _ _ _ rfl hw11.out; have c0 := BoxC.r (K11.out.get 0 _ _ _ rfl) 0 (by decide); have x0 := BoxC.r (K11.out.get 4 _ _ _ rfl) 0 (by decide); have f0 := frozen_heap (K11.out.get 4 _ _ _ rfl) 0; have K12 : Hid (Fm w [(w.heap.size, cpC c, 26), (w.heap.size + 1, pnC { p with Mode := 0 }, 30), (v4.heap.size, cpC N, 26), (v7.heap.size, dvC D, 37), (y9.heap.size, cpC (c.up 0), 26)] (y11.setCell ⟨y9.heap.size, 0, none⟩ (.int .u16 (IntKind.u16.wrap (c.R 0 + 1))))) := K11.out.setCell 4 _ _ _ _ rfl 0 _ (cpC_up c 0 (by decide)))
    | (refine gen_world (y11.setCell ⟨y9.heap.size, 0, none⟩ (.int .u16 (IntKind.u16.wrap (c.R 0 + 1)))) (Fm w [(w.heap.size, cpC c, 26), (w.heap.size + 1, pnC { p with Mode := 0 }, 30), (v4.heap.size, cpC N, 26), (v7.heap.size, dvC D, 37), (y9.heap.size, cpC (c.up 0), 26)]) K12.out ?_; intro y12 K13; have m25 := BoxC.fPh (K13.out.get 2 _ _ _ rfl); have x25 := BoxC.fPh (K13.out.get 4 _ _ _ rfl); have f25 := frozen_heap (K13.out.get 4 _ _ _ rfl) 25; have K14 : Hid (Fm w [(w.heap.size, cpC c, 26), (w.heap.size + 1, pnC { p with Mode := 0 }, 30), (v4.heap.size, cpC N, 26), (v7.heap.size, dvC D, 37), (y9.heap.size, cpC { c.up 0 with Ph := N.Ph }, 26)] (y12.setCell ⟨y9.heap.size, 25, none⟩ (.int .u8 (N.Ph : Int)))) := K13.out.setCell 4 _ _ _ _ rfl 25 _ (cpC_setPh (c.up 0) N.Ph))
    | (refine gen_world (y12.setCell ⟨y9.heap.size, 25, none⟩ (.int .u8 (N.Ph : Int))) (Fm w [(w.heap.size, cpC c, 26), (w.heap.size + 1, pnC { p with Mode := 0 }, 30), (v4.heap.size, cpC N, 26), (v7.heap.size, dvC D, 37), (y9.heap.size, cpC { c.up 0 with Ph := N.Ph }, 26)]) K14.out ?_; intro y14 K15; have c0' := BoxC.r (K15.out.get 0 _ _ _ rfl) 0 (by decide); have c25 := BoxC.fPh (K15.out.get 0 _ _ _ rfl); rw [hph.out] at c25; have c23 := BoxC.fOp (K15.out.get 0 _ _ _ rfl); rw [ho.out] at c23; have k25 := BoxC.fPh (K15.out.get 2 _ _ _ rfl); rw [n1.out] at k25; have k21 := BoxC.fIE (K15.out.get 2 _ _ _ rfl); have r6 : y14.cell? ⟨w.heap.size + 1, 6, none⟩ = some (.bool p.DI) := BoxP.fDI (p := { p with Mode := 0 }) (K15.out.get 1 _ _ _ rfl); have r7 : y14.cell? ⟨w.heap.size + 1, 7, none⟩ = some (.bool p.DO) := BoxP.fDO (p := { p with Mode := 0 }) (K15.out.get 1 _ _ _ rfl); have r8 : y14.cell? ⟨w.heap.size + 1, 8, none⟩ = some (.bool p.Int_) := BoxP.fInt (p := { p with Mode := 0 }) (K15.out.get 1 _ _ _ rfl); rw [l1.out] at r6; rw [l2.out] at r7; rw [l3.out] at r8; rw [l4.out] at k21; refine stopAt ?_)
    | (refine at_loadC w.heap.size c (K9.out.get 0 _ _ _ rfl) _ rfl rfl rfl ?_)
    | (refine at_loadC w.heap.size c (K6.out.get 0 _ _ _ rfl) _ rfl rfl rfl ?_)
    | (refine at_loadC w.heap.size c (K4.out.get 0 _ _ _ rfl) _ rfl rfl rfl ?_)
    | (refine at_loadP (w.heap.size + 1) _ (K4.out.get 1 _ _ _ rfl) _ rfl rfl rfl ?_)
    | (refine at_loadC w.heap.size c (K1.out.get 0 _ _ _ rfl) _ rfl rfl rfl ?_))
  refine Stop.go ?_
  refine at_loadC v4.heap.size N (K15.out.get 2 _ _ _ rfl) _ rfl rfl rfl ?_
  try simp only [Act.put, List.setIfInBounds_toArray, List.set_cons_zero, List.set_cons_succ]
  refine at_loadC y9.heap.size _ (K15.out.get 4 _ _ _ rfl) _ rfl rfl rfl ?_
  try simp only [Act.put, List.setIfInBounds_toArray, List.set_cons_zero, List.set_cons_succ]
  refine at_neC N _ hNe.out _ _ _ rfl rfl rfl rfl ?_
  try simp only [Act.put, List.setIfInBounds_toArray, List.set_cons_zero, List.set_cons_succ]
  with_reducible refine at_op (.bool false) ?_ ?_ ?_
  · kernel_rfl
  · go_simp
  try simp only [Act.put, List.setIfInBounds_toArray, List.set_cons_zero, List.set_cons_succ]
  with_reducible refine at_loadDg v7.heap.size D ?_ (.tmp 8) ?_ ?_ ?_ ?_
  · exact K15.out.get 3 _ _ _ rfl
  · kernel_rfl
  · rfl
  · rfl
  try simp only [Act.put, List.setIfInBounds_toArray, List.set_cons_zero, List.set_cons_succ]
  with_reducible refine at_op (.pointer (some ⟨w.heap.size, 0, none⟩)) ?_ ?_ ?_
  · kernel_rfl
  · go_simp
  try simp only [Act.put, List.setIfInBounds_toArray, List.set_cons_zero, List.set_cons_succ]
  with_reducible refine at_op (.pointer (some ⟨w.heap.size, 0, none⟩)) ?_ ?_ ?_
  · kernel_rfl
  · go_simp
  try simp only [Act.put, List.setIfInBounds_toArray, List.set_cons_zero, List.set_cons_succ]
  with_reducible refine at_op (.int .u16 (c.R 0)) ?_ ?_ ?_
  · kernel_rfl
  · go_simp
  try simp only [Act.put, List.setIfInBounds_toArray, List.set_cons_zero, List.set_cons_succ]
  with_reducible refine at_op (.pointer (some ⟨w.heap.size, 25, none⟩)) ?_ ?_ ?_
  · kernel_rfl
  · go_simp
  try simp only [Act.put, List.setIfInBounds_toArray, List.set_cons_zero, List.set_cons_succ]
  with_reducible refine at_op (.int .u8 7) ?_ ?_ ?_
  · kernel_rfl
  · go_simp
  try simp only [Act.put, List.setIfInBounds_toArray, List.set_cons_zero, List.set_cons_succ]
  with_reducible refine at_op (.bool true) ?_ ?_ ?_
  · kernel_rfl
  · go_simp
  try simp only [Act.put, List.setIfInBounds_toArray, List.set_cons_zero, List.set_cons_succ]
  with_reducible refine at_op (.pointer (some ⟨w.heap.size, 25, none⟩)) ?_ ?_ ?_
  · kernel_rfl
  · go_simp
  try simp only [Act.put, List.setIfInBounds_toArray, List.set_cons_zero, List.set_cons_succ]
  with_reducible refine at_op (.int .u8 7) ?_ ?_ ?_
  · kernel_rfl
  · go_simp
  try simp only [Act.put, List.setIfInBounds_toArray, List.set_cons_zero, List.set_cons_succ]
  with_reducible refine at_op (.bool false) ?_ ?_ ?_
  · kernel_rfl
  · go_simp
  try simp only [Act.put, List.setIfInBounds_toArray, List.set_cons_zero, List.set_cons_succ]
  with_reducible refine wantD #[(0, .const (.int .u8 2)), (1, .tmp 54), (2, .tmp 57), (3, .tmp 60), (7, .const (.bool true))] [(0, .int .u8 2), (1, .int .u16 (c.R 0)), (2, .bool true), (3, .bool false), (7, .bool true)] D ?_ ?_ ?_ hbD.out (some 61) ?_ ?_
  · kernel_rfl
  · rfl
  · first | (simp [Act.eval]; done) | (go_simp; done)
  · rfl
  try simp only [Act.put, List.setIfInBounds_toArray, List.set_cons_zero, List.set_cons_succ]
  with_reducible refine at_neD D D rfl (.tmp 51) (.tmp 61) 37 ?_ ?_ ?_ ?_ ?_
  · kernel_rfl
  · rfl
  · rfl
  · rfl
  try simp only [Act.put, List.setIfInBounds_toArray, List.set_cons_zero, List.set_cons_succ]
  with_reducible refine at_op (.bool false) ?_ ?_ ?_
  · kernel_rfl
  · go_simp
  try simp only [Act.put, List.setIfInBounds_toArray, List.set_cons_zero, List.set_cons_succ]
  go_wp2
  all_goals go_ret
  all_goals exact ⟨by first | rfl | simp, K15.out.low⟩

theorem asked_7no (w : World) (c : Cp) (hc : c.wf) (p : Pn) (hp : p.wf) (tb : Tabs w) (hch : checkB c = true) (N : Cp) (hN : goOnM c { p with Mode := 0 } = N) (h : c.Ph = 7) (l1 : p.DI = false) (l2 : p.DO = false) (l3 : p.Int_ = false) (hPh : N.Ph = 1) : Calls Tryd.prog 5 #[.agg (cpC c), .agg (pnC p)] w fun e w' => e = .returned (.bool true) ∧ Below w.heap.size w w' := by
  have hA := fun v t => lawake v t
  have hM := fun v => lmay v c hc
  rw [hch] at hM
  have hS := fun v t => ystep v c hc { p with Mode := 0 } (pn_wf0 hp) t
  rw [step_run p hch, hN] at hS
  have hD := fun v t => ydrive v c hc t 0 (by decide)
  have zz := zeroVC
  have zd := zeroVD
  have tb' : Hid (Tabs w) := tb
  have hF : Hid (Fm w [(w.heap.size, cpC c, 26), (w.heap.size + 1, pnC p, 30)] ((w.alloc (.cells (cpC c) 26)).alloc (.cells (pnC p) 30))) := Fm.two w c p
  obtain ⟨o, ho⟩ : ∃ o : Int, (c.Op : Int) = o := ⟨_, rfl⟩
  have hph : (c.Ph : Int) = 7 := by omega
  have n1 : (N.Ph : Int) = 1 := by omega
  have hDe : driveM c 0 = (⟨2, c.R 0, true, false, false, 0, 0, true⟩ : Dv) := by unfold driveM runM; rw [if_pos hch]; simp only [h]; rfl
  rw [hDe] at hD
  have hNe : Hid (cpC N = cpC { c.up 0 with Ph := N.Ph }) := by rw [show (Hid (cpC N = cpC { c.up 0 with Ph := N.Ph })) = (cpC N = cpC { c.up 0 with Ph := N.Ph }) from rfl, ← hN]; unfold goOnM; simp only [h]
  obtain ⟨D, hDD⟩ : ∃ D : Dv, (⟨2, c.R 0, true, false, false, 0, 0, true⟩ : Dv) = D := ⟨_, rfl⟩
  rw [hDD] at hD
  have hbD : Hid (Tryd.prog.built 37 [(0, .int .u8 2), (1, .int .u16 (c.R 0)), (2, .bool true), (3, .bool false), (7, .bool true)] = some (dvC D)) := by rw [← hDD]; exact (by kernel_rfl : Tryd.prog.built 37 [(0, .int .u8 2), (1, .int .u16 (c.R 0)), (2, .bool true), (3, .bool false), (7, .bool true)] = some (dvC (⟨2, c.R 0, true, false, false, 0, 0, true⟩ : Dv)))
  replace ho : Hid _ := ho
  replace hph : Hid _ := hph
  replace n1 : Hid _ := n1
  replace l1 : Hid _ := l1
  replace l2 : Hid _ := l2
  replace l3 : Hid _ := l3
  clear hc hp tb hch hN h hPh hDe hDD
  go_enter Tryd.func5, Tryd.ntmps5
  go_wp2_with (first
    | (refine gen_world ((w.alloc (.cells (cpC c) 26)).alloc (.cells (pnC p) 30)) (Fm w [(w.heap.size, cpC c, 26), (w.heap.size + 1, pnC p, 30)]) hF.out ?_; intro y K0)
    | (go_at_call 12; refine (hA _ (tb'.out.below K0.out.low)).mono ?_; rintro e v1 ⟨rfl, hb1⟩; have K1 : Hid _ := K0.out.below hb1)
    | (go_at_call 8; refine (hM _).mono ?_; rintro e v2 ⟨rfl, hb2⟩; have K2 : Hid _ := K1.out.below hb2; have dM := BoxP.fMode (K2.out.get 1 _ _ _ rfl); have fM := frozen_heap (K2.out.get 1 _ _ _ rfl) 0; have K3 : Hid (Fm w [(w.heap.size, cpC c, 26), (w.heap.size + 1, pnC { p with Mode := 0 }, 30)] (v2.setCell ⟨w.heap.size + 1, 0, none⟩ (.int .u8 0))) := K2.out.setCell 1 _ _ _ _ rfl 0 _ rfl)
    | (refine gen_world (v2.setCell ⟨w.heap.size + 1, 0, none⟩ (.int .u8 0)) (Fm w [(w.heap.size, cpC c, 26), (w.heap.size + 1, pnC { p with Mode := 0 }, 30)]) K3.out ?_; intro y3 K4)
    | (go_at_call 10; refine (hS _ (tb'.out.below K4.out.low)).mono ?_; rintro e v4 ⟨rfl, hb4⟩; have K5 : Hid _ := K4.out.below hb4)
    | (refine gen_world (v4.alloc (.cells (cpC zeroC) 26)) (Fm w [(w.heap.size, cpC c, 26), (w.heap.size + 1, pnC { p with Mode := 0 }, 30), (v4.heap.size, cpC zeroC, 26)]) (K5.out.new _ _) ?_; intro y5 K55)
    | (refine at_storeC v4.heap.size zeroC N (K55.out.get 2 _ _ _ rfl) _ _ rfl rfl rfl rfl ?_; intro y6 hw6; have K6 : Hid (Fm w [(w.heap.size, cpC c, 26), (w.heap.size + 1, pnC { p with Mode := 0 }, 30), (v4.heap.size, cpC N, 26)] y6) := K55.out.put 2 _ _ _ _ rfl hw6.out; have d25 := BoxC.fPh (K6.out.get 0 _ _ _ rfl); have d23 := BoxC.fOp (K6.out.get 0 _ _ _ rfl); rw [ho.out] at d23; have n25 := BoxC.fPh (K6.out.get 2 _ _ _ rfl); have n21 := BoxC.fIE (K6.out.get 2 _ _ _ rfl); have n23 := BoxC.fOp (K6.out.get 2 _ _ _ rfl); have p1 : y6.cell? ⟨w.heap.size + 1, 1, none⟩ = some (.int .u8 p.Data) := BoxP.fData (p := { p with Mode := 0 }) (K6.out.get 1 _ _ _ rfl); have p6 : y6.cell? ⟨w.heap.size + 1, 6, none⟩ = some (.bool p.DI) := BoxP.fDI (p := { p with Mode := 0 }) (K6.out.get 1 _ _ _ rfl); have p7 : y6.cell? ⟨w.heap.size + 1, 7, none⟩ = some (.bool p.DO) := BoxP.fDO (p := { p with Mode := 0 }) (K6.out.get 1 _ _ _ rfl); have p8 : y6.cell? ⟨w.heap.size + 1, 8, none⟩ = some (.bool p.Int_) := BoxP.fInt (p := { p with Mode := 0 }) (K6.out.get 1 _ _ _ rfl); rw [hph.out] at d25)
    | (go_at_call 11; refine (hD _ (tb'.out.below K6.out.low)).mono ?_; rintro e v7 ⟨rfl, hb7⟩; have K7 : Hid _ := K6.out.below hb7)
    | (refine gen_world (v7.alloc (.cells (dvC zeroD) 37)) (Fm w [(w.heap.size, cpC c, 26), (w.heap.size + 1, pnC { p with Mode := 0 }, 30), (v4.heap.size, cpC N, 26), (v7.heap.size, dvC zeroD, 37)]) (K7.out.new _ _) ?_; intro y8 K8)
    | (refine at_storeD v7.heap.size zeroD D (K8.out.get 3 _ _ _ rfl) _ _ rfl rfl rfl rfl ?_; intro y9 hw9; have K9 : Hid (Fm w [(w.heap.size, cpC c, 26), (w.heap.size + 1, pnC { p with Mode := 0 }, 30), (v4.heap.size, cpC N, 26), (v7.heap.size, dvC D, 37)] y9) := K8.out.put 3 _ _ _ _ rfl hw9.out)
    | (refine gen_world (y9.alloc (.cells (cpC zeroC) 26)) (Fm w [(w.heap.size, cpC c, 26), (w.heap.size + 1, pnC { p with Mode := 0 }, 30), (v4.heap.size, cpC N, 26), (v7.heap.size, dvC D, 37), (y9.heap.size, cpC zeroC, 26)]) (K9.out.new _ _) ?_; intro y10 K10)
    | (refine at_storeC y9.heap.size zeroC c (K10.out.get 4 _ _ _ rfl) _ _ rfl rfl rfl rfl ?_; intro y11 hw11; have K11 : Hid (Fm w [(w.heap.size, cpC c, 26), (w.heap.size + 1, pnC { p with Mode := 0 }, 30), (v4.heap.size, cpC N, 26), (v7.heap.size, dvC D, 37), (y9.heap.size, cpC c, 26)] y11) := K10.out.put 4 _ _ _ _ rfl hw11.out; have c0 := BoxC.r (K11.out.get 0 _ _ _ rfl) 0 (by decide); have x0 := BoxC.r (K11.out.get 4 _ _ _ rfl) 0 (by decide); have f0 := frozen_heap (K11.out.get 4 _ _ _ rfl) 0; have K12 : Hid (Fm w [(w.heap.size, cpC c, 26), (w.heap.size + 1, pnC { p with Mode := 0 }, 30), (v4.heap.size, cpC N, 26), (v7.heap.size, dvC D, 37), (y9.heap.size, cpC (c.up 0), 26)] (y11.setCell ⟨y9.heap.size, 0, none⟩ (.int .u16 (IntKind.u16.wrap (c.R 0 + 1))))) := K11.out.setCell 4 _ _ _ _ rfl 0 _ (cpC_up c 0 (by decide)))
    | (refine gen_world (y11.setCell ⟨y9.heap.size, 0, none⟩ (.int .u16 (IntKind.u16.wrap (c.R 0 + 1)))) (Fm w [(w.heap.size, cpC c, 26), (w.heap.size + 1, pnC { p with Mode := 0 }, 30), (v4.heap.size, cpC N, 26), (v7.heap.size, dvC D, 37), (y9.heap.size, cpC (c.up 0), 26)]) K12.out ?_; intro y12 K13; have m25 := BoxC.fPh (K13.out.get 2 _ _ _ rfl); have x25 := BoxC.fPh (K13.out.get 4 _ _ _ rfl); have f25 := frozen_heap (K13.out.get 4 _ _ _ rfl) 25; have K14 : Hid (Fm w [(w.heap.size, cpC c, 26), (w.heap.size + 1, pnC { p with Mode := 0 }, 30), (v4.heap.size, cpC N, 26), (v7.heap.size, dvC D, 37), (y9.heap.size, cpC { c.up 0 with Ph := N.Ph }, 26)] (y12.setCell ⟨y9.heap.size, 25, none⟩ (.int .u8 (N.Ph : Int)))) := K13.out.setCell 4 _ _ _ _ rfl 25 _ (cpC_setPh (c.up 0) N.Ph))
    | (refine gen_world (y12.setCell ⟨y9.heap.size, 25, none⟩ (.int .u8 (N.Ph : Int))) (Fm w [(w.heap.size, cpC c, 26), (w.heap.size + 1, pnC { p with Mode := 0 }, 30), (v4.heap.size, cpC N, 26), (v7.heap.size, dvC D, 37), (y9.heap.size, cpC { c.up 0 with Ph := N.Ph }, 26)]) K14.out ?_; intro y14 K15; have c0' := BoxC.r (K15.out.get 0 _ _ _ rfl) 0 (by decide); have c25 := BoxC.fPh (K15.out.get 0 _ _ _ rfl); rw [hph.out] at c25; have c23 := BoxC.fOp (K15.out.get 0 _ _ _ rfl); rw [ho.out] at c23; have k25 := BoxC.fPh (K15.out.get 2 _ _ _ rfl); rw [n1.out] at k25; have k21 := BoxC.fIE (K15.out.get 2 _ _ _ rfl); have r6 : y14.cell? ⟨w.heap.size + 1, 6, none⟩ = some (.bool p.DI) := BoxP.fDI (p := { p with Mode := 0 }) (K15.out.get 1 _ _ _ rfl); have r7 : y14.cell? ⟨w.heap.size + 1, 7, none⟩ = some (.bool p.DO) := BoxP.fDO (p := { p with Mode := 0 }) (K15.out.get 1 _ _ _ rfl); have r8 : y14.cell? ⟨w.heap.size + 1, 8, none⟩ = some (.bool p.Int_) := BoxP.fInt (p := { p with Mode := 0 }) (K15.out.get 1 _ _ _ rfl); rw [l1.out] at r6; rw [l2.out] at r7; rw [l3.out] at r8; refine stopAt ?_)
    | (refine at_loadC w.heap.size c (K9.out.get 0 _ _ _ rfl) _ rfl rfl rfl ?_)
    | (refine at_loadC w.heap.size c (K6.out.get 0 _ _ _ rfl) _ rfl rfl rfl ?_)
    | (refine at_loadC w.heap.size c (K4.out.get 0 _ _ _ rfl) _ rfl rfl rfl ?_)
    | (refine at_loadP (w.heap.size + 1) _ (K4.out.get 1 _ _ _ rfl) _ rfl rfl rfl ?_)
    | (refine at_loadC w.heap.size c (K1.out.get 0 _ _ _ rfl) _ rfl rfl rfl ?_))
  refine Stop.go ?_
  refine at_loadC v4.heap.size N (K15.out.get 2 _ _ _ rfl) _ rfl rfl rfl ?_
  try simp only [Act.put, List.setIfInBounds_toArray, List.set_cons_zero, List.set_cons_succ]
  refine at_loadC y9.heap.size _ (K15.out.get 4 _ _ _ rfl) _ rfl rfl rfl ?_
  try simp only [Act.put, List.setIfInBounds_toArray, List.set_cons_zero, List.set_cons_succ]
  refine at_neC N _ hNe.out _ _ _ rfl rfl rfl rfl ?_
  try simp only [Act.put, List.setIfInBounds_toArray, List.set_cons_zero, List.set_cons_succ]
  with_reducible refine at_op (.bool false) ?_ ?_ ?_
  · kernel_rfl
  · go_simp
  try simp only [Act.put, List.setIfInBounds_toArray, List.set_cons_zero, List.set_cons_succ]
  with_reducible refine at_loadDg v7.heap.size D ?_ (.tmp 8) ?_ ?_ ?_ ?_
  · exact K15.out.get 3 _ _ _ rfl
  · kernel_rfl
  · rfl
  · rfl
  try simp only [Act.put, List.setIfInBounds_toArray, List.set_cons_zero, List.set_cons_succ]
  with_reducible refine at_op (.pointer (some ⟨w.heap.size, 0, none⟩)) ?_ ?_ ?_
  · kernel_rfl
  · go_simp
  try simp only [Act.put, List.setIfInBounds_toArray, List.set_cons_zero, List.set_cons_succ]
  with_reducible refine at_op (.pointer (some ⟨w.heap.size, 0, none⟩)) ?_ ?_ ?_
  · kernel_rfl
  · go_simp
  try simp only [Act.put, List.setIfInBounds_toArray, List.set_cons_zero, List.set_cons_succ]
  with_reducible refine at_op (.int .u16 (c.R 0)) ?_ ?_ ?_
  · kernel_rfl
  · go_simp
  try simp only [Act.put, List.setIfInBounds_toArray, List.set_cons_zero, List.set_cons_succ]
  with_reducible refine at_op (.pointer (some ⟨w.heap.size, 25, none⟩)) ?_ ?_ ?_
  · kernel_rfl
  · go_simp
  try simp only [Act.put, List.setIfInBounds_toArray, List.set_cons_zero, List.set_cons_succ]
  with_reducible refine at_op (.int .u8 7) ?_ ?_ ?_
  · kernel_rfl
  · go_simp
  try simp only [Act.put, List.setIfInBounds_toArray, List.set_cons_zero, List.set_cons_succ]
  with_reducible refine at_op (.bool true) ?_ ?_ ?_
  · kernel_rfl
  · go_simp
  try simp only [Act.put, List.setIfInBounds_toArray, List.set_cons_zero, List.set_cons_succ]
  with_reducible refine at_op (.pointer (some ⟨w.heap.size, 25, none⟩)) ?_ ?_ ?_
  · kernel_rfl
  · go_simp
  try simp only [Act.put, List.setIfInBounds_toArray, List.set_cons_zero, List.set_cons_succ]
  with_reducible refine at_op (.int .u8 7) ?_ ?_ ?_
  · kernel_rfl
  · go_simp
  try simp only [Act.put, List.setIfInBounds_toArray, List.set_cons_zero, List.set_cons_succ]
  with_reducible refine at_op (.bool false) ?_ ?_ ?_
  · kernel_rfl
  · go_simp
  try simp only [Act.put, List.setIfInBounds_toArray, List.set_cons_zero, List.set_cons_succ]
  with_reducible refine wantD #[(0, .const (.int .u8 2)), (1, .tmp 54), (2, .tmp 57), (3, .tmp 60), (7, .const (.bool true))] [(0, .int .u8 2), (1, .int .u16 (c.R 0)), (2, .bool true), (3, .bool false), (7, .bool true)] D ?_ ?_ ?_ hbD.out (some 61) ?_ ?_
  · kernel_rfl
  · rfl
  · first | (simp [Act.eval]; done) | (go_simp; done)
  · rfl
  try simp only [Act.put, List.setIfInBounds_toArray, List.set_cons_zero, List.set_cons_succ]
  with_reducible refine at_neD D D rfl (.tmp 51) (.tmp 61) 37 ?_ ?_ ?_ ?_ ?_
  · kernel_rfl
  · rfl
  · rfl
  · rfl
  try simp only [Act.put, List.setIfInBounds_toArray, List.set_cons_zero, List.set_cons_succ]
  with_reducible refine at_op (.bool false) ?_ ?_ ?_
  · kernel_rfl
  · go_simp
  try simp only [Act.put, List.setIfInBounds_toArray, List.set_cons_zero, List.set_cons_succ]
  go_wp2
  all_goals go_ret
  all_goals exact ⟨by first | rfl | simp, K15.out.low⟩

end Go.Proofs.YtbeeefekndcgnaaDoor
