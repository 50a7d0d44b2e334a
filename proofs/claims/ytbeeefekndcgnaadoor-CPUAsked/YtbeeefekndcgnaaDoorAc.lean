/- CPUAsked: the phases that make no processor to hold against, the other half -/
import Derived.Test.YtbeeefekndcgnaaDoorAa
namespace Go.Proofs.YtbeeefekndcgnaaDoor
open Go Go.RowKit
set_option linter.unusedVariables false
set_option maxHeartbeats 1000000
set_option maxRecDepth 20000

theorem asked_21bno (w : World) (c : Cp) (hc : c.wf) (p : Pn) (hp : p.wf) (tb : Tabs w) (hch : checkB c = true) (N : Cp) (hN : goOnM c { p with Mode := 0 } = N) (h : c.Ph = 2) (h12 : 207 < c.Op) (h0 : c.Op ≠ 0) (l1 : p.DI = false) (l2 : p.DO = false) (l3 : p.Int_ = false) (hPh : N.Ph = 1) : Calls Tryd.prog 5 #[.agg (cpC c), .agg (pnC p)] w fun e w' => e = .returned (.bool true) ∧ Below w.heap.size w w' := by
  have hA := fun v t => lawake v t
  have hM := fun v => lmay v c hc
  rw [hch] at hM
  have hS := fun v t => ystep v c hc { p with Mode := 0 } (pn_wf0 hp) t
  rw [step_run p hch, hN] at hS
  have hD := fun v t => ydrive v c hc t 0 (by decide)
  have zz := zeroVC
  have zd := zeroVD
  have tb' : Hid (Tabs w) := tb
  have hF : Hid (Fm w [(w.heap.size, cpC c, 26), (w.heap.size + 1, pnC p, 30)] ((w.alloc (.cells (cpC c) 26)).alloc (.cells (pnC p) 30))) := Fm.two w c p
  obtain ⟨o, ho⟩ : ∃ o : Int, (c.Op : Int) = o := ⟨_, rfl⟩
  have hph : (c.Ph : Int) = 2 := by omega
  have n1 : (N.Ph : Int) = 1 := by omega
  have hlo : decide ((192 : Int) ≤ o) = true := by simp; omega
  have hhi : decide (o ≤ (207 : Int)) = false := by simp; omega
  have hnz : (o == 0) = false := by simp; omega
  replace ho : Hid _ := ho
  replace hph : Hid _ := hph
  replace n1 : Hid _ := n1
  replace l1 : Hid _ := l1
  replace l2 : Hid _ := l2
  replace l3 : Hid _ := l3
  clear hc hp tb hch hN h hPh h12 h0
  go_enter Tryd.func5, Tryd.ntmps5
  go_wp2_with (first
    | (refine gen_world ((w.alloc (.cells (cpC c) 26)).alloc (.cells (pnC p) 30)) (Fm w [(w.heap.size, cpC c, 26), (w.heap.size + 1, pnC p, 30)]) hF.out ?_; intro y K0)
    | (go_at_call 12; refine (hA _ (tb'.out.below K0.out.low)).mono ?_; rintro e v1 ⟨rfl, hb1⟩; have K1 : Hid _ := K0.out.below hb1)
    | (go_at_call 8; refine (hM _).mono ?_; rintro e v2 ⟨rfl, hb2⟩; have K2 : Hid _ := K1.out.below hb2; have dM := BoxP.fMode (K2.out.get 1 _ _ _ rfl); have fM := frozen_heap (K2.out.get 1 _ _ _ rfl) 0; have K3 : Hid (Fm w [(w.heap.size, cpC c, 26), (w.heap.size + 1, pnC { p with Mode := 0 }, 30)] (v2.setCell ⟨w.heap.size + 1, 0, none⟩ (.int .u8 0))) := K2.out.setCell 1 _ _ _ _ rfl 0 _ rfl)
    | (refine gen_world (v2.setCell ⟨w.heap.size + 1, 0, none⟩ (.int .u8 0)) (Fm w [(w.heap.size, cpC c, 26), (w.heap.size + 1, pnC { p with Mode := 0 }, 30)]) K3.out ?_; intro y3 K4)
    | (go_at_call 10; refine (hS _ (tb'.out.below K4.out.low)).mono ?_; rintro e v4 ⟨rfl, hb4⟩; have K5 : Hid _ := K4.out.below hb4)
    | (refine gen_world (v4.alloc (.cells (cpC zeroC) 26)) (Fm w [(w.heap.size, cpC c, 26), (w.heap.size + 1, pnC { p with Mode := 0 }, 30), (v4.heap.size, cpC zeroC, 26)]) (K5.out.new _ _) ?_; intro y5 K55)
    | (refine at_storeC v4.heap.size zeroC N (K55.out.get 2 _ _ _ rfl) _ _ rfl rfl rfl rfl ?_; intro y6 hw6; have K6 : Hid (Fm w [(w.heap.size, cpC c, 26), (w.heap.size + 1, pnC { p with Mode := 0 }, 30), (v4.heap.size, cpC N, 26)] y6) := K55.out.put 2 _ _ _ _ rfl hw6.out; have d25 := BoxC.fPh (K6.out.get 0 _ _ _ rfl); have d23 := BoxC.fOp (K6.out.get 0 _ _ _ rfl); rw [ho.out] at d23; have n25 := BoxC.fPh (K6.out.get 2 _ _ _ rfl); have n21 := BoxC.fIE (K6.out.get 2 _ _ _ rfl); have n23 := BoxC.fOp (K6.out.get 2 _ _ _ rfl); have p1 : y6.cell? ⟨w.heap.size + 1, 1, none⟩ = some (.int .u8 p.Data) := BoxP.fData (p := { p with Mode := 0 }) (K6.out.get 1 _ _ _ rfl); have p6 : y6.cell? ⟨w.heap.size + 1, 6, none⟩ = some (.bool p.DI) := BoxP.fDI (p := { p with Mode := 0 }) (K6.out.get 1 _ _ _ rfl); have p7 : y6.cell? ⟨w.heap.size + 1, 7, none⟩ = some (.bool p.DO) := BoxP.fDO (p := { p with Mode := 0 }) (K6.out.get 1 _ _ _ rfl); have p8 : y6.cell? ⟨w.heap.size + 1, 8, none⟩ = some (.bool p.Int_) := BoxP.fInt (p := { p with Mode := 0 }) (K6.out.get 1 _ _ _ rfl); rw [hph.out] at d25; rw [n1.out] at n25; rw [l1.out] at p6; rw [l2.out] at p7; rw [l3.out] at p8; refine stopAt ?_)
    | (refine at_loadC w.heap.size c (K4.out.get 0 _ _ _ rfl) _ rfl rfl rfl ?_)
    | (refine at_loadP (w.heap.size + 1) _ (K4.out.get 1 _ _ _ rfl) _ rfl rfl rfl ?_)
    | (refine at_loadC w.heap.size c (K1.out.get 0 _ _ _ rfl) _ rfl rfl rfl ?_))
  refine Stop.go ?_
  go_wp2
  all_goals go_ret
  all_goals exact ⟨by first | rfl | simp, K6.out.low⟩

theorem asked_3di (w : World) (c : Cp) (hc : c.wf) (p : Pn) (hp : p.wf) (tb : Tabs w) (hch : checkB c = true) (N : Cp) (hN : goOnM c { p with Mode := 0 } = N) (h : c.Ph = 3) (h12 : c.Op / 16 = 12) (l1 : p.DI = true) (hPh : N.Ph = 6) : Calls Tryd.prog 5 #[.agg (cpC c), .agg (pnC p)] w fun e w' => e = .returned (.bool true) ∧ Below w.heap.size w w' := by
  have hA := fun v t => lawake v t
  have hM := fun v => lmay v c hc
  rw [hch] at hM
  have hS := fun v t => ystep v c hc { p with Mode := 0 } (pn_wf0 hp) t
  rw [step_run p hch, hN] at hS
  have hD := fun v t => ydrive v c hc t 0 (by decide)
  have zz := zeroVC
  have zd := zeroVD
  have tb' : Hid (Tabs w) := tb
  have hF : Hid (Fm w [(w.heap.size, cpC c, 26), (w.heap.size + 1, pnC p, 30)] ((w.alloc (.cells (cpC c) 26)).alloc (.cells (pnC p) 30))) := Fm.two w c p
  obtain ⟨o, ho⟩ : ∃ o : Int, (c.Op : Int) = o := ⟨_, rfl⟩
  have hph : (c.Ph : Int) = 3 := by omega
  have n1 : (N.Ph : Int) = 6 := by omega
  replace ho : Hid _ := ho
  replace hph : Hid _ := hph
  replace n1 : Hid _ := n1
  replace l1 : Hid _ := l1
  clear hc hp tb hch hN h hPh h12
  go_enter Tryd.func5, Tryd.ntmps5
  go_wp2_with (first
    | (refine gen_world ((w.alloc (.cells (cpC c) 26)).alloc (.cells (pnC p) 30)) (Fm w [(w.heap.size, cpC c, 26), (w.heap.size + 1, pnC p, 30)]) hF.out ?_; intro y K0)
    | (go_at_call 12; refine (hA _ (tb'.out.below K0.out.low)).mono ?_; rintro e v1 ⟨rfl, hb1⟩; have K1 : Hid _ := K0.out.below hb1)
    | (go_at_call 8; refine (hM _).mono ?_; rintro e v2 ⟨rfl, hb2⟩; have K2 : Hid _ := K1.out.below hb2; have dM := BoxP.fMode (K2.out.get 1 _ _ _ rfl); have fM := frozen_heap (K2.out.get 1 _ _ _ rfl) 0; have K3 : Hid (Fm w [(w.heap.size, cpC c, 26), (w.heap.size + 1, pnC { p with Mode := 0 }, 30)] (v2.setCell ⟨w.heap.size + 1, 0, none⟩ (.int .u8 0))) := K2.out.setCell 1 _ _ _ _ rfl 0 _ rfl)
    | (refine gen_world (v2.setCell ⟨w.heap.size + 1, 0, none⟩ (.int .u8 0)) (Fm w [(w.heap.size, cpC c, 26), (w.heap.size + 1, pnC { p with Mode := 0 }, 30)]) K3.out ?_; intro y3 K4)
    | (go_at_call 10; refine (hS _ (tb'.out.below K4.out.low)).mono ?_; rintro e v4 ⟨rfl, hb4⟩; have K5 : Hid _ := K4.out.below hb4)
    | (refine gen_world (v4.alloc (.cells (cpC zeroC) 26)) (Fm w [(w.heap.size, cpC c, 26), (w.heap.size + 1, pnC { p with Mode := 0 }, 30), (v4.heap.size, cpC zeroC, 26)]) (K5.out.new _ _) ?_; intro y5 K55)
    | (refine at_storeC v4.heap.size zeroC N (K55.out.get 2 _ _ _ rfl) _ _ rfl rfl rfl rfl ?_; intro y6 hw6; have K6 : Hid (Fm w [(w.heap.size, cpC c, 26), (w.heap.size + 1, pnC { p with Mode := 0 }, 30), (v4.heap.size, cpC N, 26)] y6) := K55.out.put 2 _ _ _ _ rfl hw6.out; have d25 := BoxC.fPh (K6.out.get 0 _ _ _ rfl); have d23 := BoxC.fOp (K6.out.get 0 _ _ _ rfl); rw [ho.out] at d23; have n25 := BoxC.fPh (K6.out.get 2 _ _ _ rfl); have n21 := BoxC.fIE (K6.out.get 2 _ _ _ rfl); have n23 := BoxC.fOp (K6.out.get 2 _ _ _ rfl); have p1 : y6.cell? ⟨w.heap.size + 1, 1, none⟩ = some (.int .u8 p.Data) := BoxP.fData (p := { p with Mode := 0 }) (K6.out.get 1 _ _ _ rfl); have p6 : y6.cell? ⟨w.heap.size + 1, 6, none⟩ = some (.bool p.DI) := BoxP.fDI (p := { p with Mode := 0 }) (K6.out.get 1 _ _ _ rfl); have p7 : y6.cell? ⟨w.heap.size + 1, 7, none⟩ = some (.bool p.DO) := BoxP.fDO (p := { p with Mode := 0 }) (K6.out.get 1 _ _ _ rfl); have p8 : y6.cell? ⟨w.heap.size + 1, 8, none⟩ = some (.bool p.Int_) := BoxP.fInt (p := { p with Mode := 0 }) (K6.out.get 1 _ _ _ rfl); rw [hph.out] at d25; rw [n1.out] at n25; rw [l1.out] at p6; refine stopAt ?_)
    | (refine at_loadC w.heap.size c (K4.out.get 0 _ _ _ rfl) _ rfl rfl rfl ?_)
    | (refine at_loadP (w.heap.size + 1) _ (K4.out.get 1 _ _ _ rfl) _ rfl rfl rfl ?_)
    | (refine at_loadC w.heap.size c (K1.out.get 0 _ _ _ rfl) _ rfl rfl rfl ?_))
  refine Stop.go ?_
  go_wp2
  all_goals go_ret
  all_goals exact ⟨by first | rfl | simp, K6.out.low⟩

theorem asked_3do (w : World) (c : Cp) (hc : c.wf) (p : Pn) (hp : p.wf) (tb : Tabs w) (hch : checkB c = true) (N : Cp) (hN : goOnM c { p with Mode := 0 } = N) (h : c.Ph = 3) (h12 : c.Op / 16 = 12) (l1 : p.DI = false) (l2 : p.DO = true) (hPh : N.Ph = 7) : Calls Tryd.prog 5 #[.agg (cpC c), .agg (pnC p)] w fun e w' => e = .returned (.bool true) ∧ Below w.heap.size w w' := by
  have hA := fun v t => lawake v t
  have hM := fun v => lmay v c hc
  rw [hch] at hM
  have hS := fun v t => ystep v c hc { p with Mode := 0 } (pn_wf0 hp) t
  rw [step_run p hch, hN] at hS
  have hD := fun v t => ydrive v c hc t 0 (by decide)
  have zz := zeroVC
  have zd := zeroVD
  have tb' : Hid (Tabs w) := tb
  have hF : Hid (Fm w [(w.heap.size, cpC c, 26), (w.heap.size + 1, pnC p, 30)] ((w.alloc (.cells (cpC c) 26)).alloc (.cells (pnC p) 30))) := Fm.two w c p
  obtain ⟨o, ho⟩ : ∃ o : Int, (c.Op : Int) = o := ⟨_, rfl⟩
  have hph : (c.Ph : Int) = 3 := by omega
  have n1 : (N.Ph : Int) = 7 := by omega
  replace ho : Hid _ := ho
  replace hph : Hid _ := hph
  replace n1 : Hid _ := n1
  replace l1 : Hid _ := l1
  replace l2 : Hid _ := l2
  clear hc hp tb hch hN h hPh h12
  go_enter Tryd.func5, Tryd.ntmps5
  go_wp2_with (first
    | (refine gen_world ((w.alloc (.cells (cpC c) 26)).alloc (.cells (pnC p) 30)) (Fm w [(w.heap.size, cpC c, 26), (w.heap.size + 1, pnC p, 30)]) hF.out ?_; intro y K0)
    | (go_at_call 12; refine (hA _ (tb'.out.below K0.out.low)).mono ?_; rintro e v1 ⟨rfl, hb1⟩; have K1 : Hid _ := K0.out.below hb1)
    | (go_at_call 8; refine (hM _).mono ?_; rintro e v2 ⟨rfl, hb2⟩; have K2 : Hid _ := K1.out.below hb2; have dM := BoxP.fMode (K2.out.get 1 _ _ _ rfl); have fM := frozen_heap (K2.out.get 1 _ _ _ rfl) 0; have K3 : Hid (Fm w [(w.heap.size, cpC c, 26), (w.heap.size + 1, pnC { p with Mode := 0 }, 30)] (v2.setCell ⟨w.heap.size + 1, 0, none⟩ (.int .u8 0))) := K2.out.setCell 1 _ _ _ _ rfl 0 _ rfl)
    | (refine gen_world (v2.setCell ⟨w.heap.size + 1, 0, none⟩ (.int .u8 0)) (Fm w [(w.heap.size, cpC c, 26), (w.heap.size + 1, pnC { p with Mode := 0 }, 30)]) K3.out ?_; intro y3 K4)
    | (go_at_call 10; refine (hS _ (tb'.out.below K4.out.low)).mono ?_; rintro e v4 ⟨rfl, hb4⟩; have K5 : Hid _ := K4.out.below hb4)
    | (refine gen_world (v4.alloc (.cells (cpC zeroC) 26)) (Fm w [(w.heap.size, cpC c, 26), (w.heap.size + 1, pnC { p with Mode := 0 }, 30), (v4.heap.size, cpC zeroC, 26)]) (K5.out.new _ _) ?_; intro y5 K55)
    | (refine at_storeC v4.heap.size zeroC N (K55.out.get 2 _ _ _ rfl) _ _ rfl rfl rfl rfl ?_; intro y6 hw6; have K6 : Hid (Fm w [(w.heap.size, cpC c, 26), (w.heap.size + 1, pnC { p with Mode := 0 }, 30), (v4.heap.size, cpC N, 26)] y6) := K55.out.put 2 _ _ _ _ rfl hw6.out; have d25 := BoxC.fPh (K6.out.get 0 _ _ _ rfl); have d23 := BoxC.fOp (K6.out.get 0 _ _ _ rfl); rw [ho.out] at d23; have n25 := BoxC.fPh (K6.out.get 2 _ _ _ rfl); have n21 := BoxC.fIE (K6.out.get 2 _ _ _ rfl); have n23 := BoxC.fOp (K6.out.get 2 _ _ _ rfl); have p1 : y6.cell? ⟨w.heap.size + 1, 1, none⟩ = some (.int .u8 p.Data) := BoxP.fData (p := { p with Mode := 0 }) (K6.out.get 1 _ _ _ rfl); have p6 : y6.cell? ⟨w.heap.size + 1, 6, none⟩ = some (.bool p.DI) := BoxP.fDI (p := { p with Mode := 0 }) (K6.out.get 1 _ _ _ rfl); have p7 : y6.cell? ⟨w.heap.size + 1, 7, none⟩ = some (.bool p.DO) := BoxP.fDO (p := { p with Mode := 0 }) (K6.out.get 1 _ _ _ rfl); have p8 : y6.cell? ⟨w.heap.size + 1, 8, none⟩ = some (.bool p.Int_) := BoxP.fInt (p := { p with Mode := 0 }) (K6.out.get 1 _ _ _ rfl); rw [hph.out] at d25; rw [n1.out] at n25; rw [l1.out] at p6; rw [l2.out] at p7; refine stopAt ?_)
    | (refine at_loadC w.heap.size c (K4.out.get 0 _ _ _ rfl) _ rfl rfl rfl ?_)
    | (refine at_loadP (w.heap.size + 1) _ (K4.out.get 1 _ _ _ rfl) _ rfl rfl rfl ?_)
    | (refine at_loadC w.heap.size c (K1.out.get 0 _ _ _ rfl) _ rfl rfl rfl ?_))
  refine Stop.go ?_
  go_wp2
  all_goals go_ret
  all_goals exact ⟨by first | rfl | simp, K6.out.low⟩

theorem asked_3in (w : World) (c : Cp) (hc : c.wf) (p : Pn) (hp : p.wf) (tb : Tabs w) (hch : checkB c = true) (N : Cp) (hN : goOnM c { p with Mode := 0 } = N) (h : c.Ph = 3) (h12 : c.Op / 16 = 12) (l1 : p.DI = false) (l2 : p.DO = false) (l3 : p.Int_ = true) (l4 : N.IE = true) (hPh : N.Ph = 8) : Calls Tryd.prog 5 #[.agg (cpC c), .agg (pnC p)] w fun e w' => e = .returned (.bool true) ∧ Below w.heap.size w w' := by
  have hA := fun v t => lawake v t
  have hM := fun v => lmay v c hc
  rw [hch] at hM
  have hS := fun v t => ystep v c hc { p with Mode := 0 } (pn_wf0 hp) t
  rw [step_run p hch, hN] at hS
  have hD := fun v t => ydrive v c hc t 0 (by decide)
  have zz := zeroVC
  have zd := zeroVD
  have tb' : Hid (Tabs w) := tb
  have hF : Hid (Fm w [(w.heap.size, cpC c, 26), (w.heap.size + 1, pnC p, 30)] ((w.alloc (.cells (cpC c) 26)).alloc (.cells (pnC p) 30))) := Fm.two w c p
  obtain ⟨o, ho⟩ : ∃ o : Int, (c.Op : Int) = o := ⟨_, rfl⟩
  have hph : (c.Ph : Int) = 3 := by omega
  have n1 : (N.Ph : Int) = 8 := by omega
  replace ho : Hid _ := ho
  replace hph : Hid _ := hph
  replace n1 : Hid _ := n1
  replace l1 : Hid _ := l1
  replace l2 : Hid _ := l2
  replace l3 : Hid _ := l3
  replace l4 : Hid _ := l4
  clear hc hp tb hch hN h hPh h12
  go_enter Tryd.func5, Tryd.ntmps5
  go_wp2_with (first
    | (refine gen_world ((w.alloc (.cells (cpC c) 26)).alloc (.cells (pnC p) 30)) (Fm w [(w.heap.size, cpC c, 26), (w.heap.size + 1, pnC p, 30)]) hF.out ?_; intro y K0)
    | (go_at_call 12; refine (hA _ (tb'.out.below K0.out.low)).mono ?_; rintro e v1 ⟨rfl, hb1⟩; have K1 : Hid _ := K0.out.below hb1)
    | (go_at_call 8; refine (hM _).mono ?_; rintro e v2 ⟨rfl, hb2⟩; have K2 : Hid _ := K1.out.below hb2; have dM := BoxP.fMode (K2.out.get 1 _ _ _ rfl); have fM := frozen_heap (K2.out.get 1 _ _ _ rfl) 0; have K3 : Hid (Fm w [(w.heap.size, cpC c, 26), (w.heap.size + 1, pnC { p with Mode := 0 }, 30)] (v2.setCell ⟨w.heap.size + 1, 0, none⟩ (.int .u8 0))) := K2.out.setCell 1 _ _ _ _ rfl 0 _ rfl)
    | (refine gen_world (v2.setCell ⟨w.heap.size + 1, 0, none⟩ (.int .u8 0)) (Fm w [(w.heap.size, cpC c, 26), (w.heap.size + 1, pnC { p with Mode := 0 }, 30)]) K3.out ?_; intro y3 K4)
    | (go_at_call 10; refine (hS _ (tb'.out.below K4.out.low)).mono ?_; rintro e v4 ⟨rfl, hb4⟩; have K5 : Hid _ := K4.out.below hb4)
    | (refine gen_world (v4.alloc (.cells (cpC zeroC) 26)) (Fm w [(w.heap.size, cpC c, 26), (w.heap.size + 1, pnC { p with Mode := 0 }, 30), (v4.heap.size, cpC zeroC, 26)]) (K5.out.new _ _) ?_; intro y5 K55)
    | (refine at_storeC v4.heap.size zeroC N (K55.out.get 2 _ _ _ rfl) _ _ rfl rfl rfl rfl ?_; intro y6 hw6; have K6 : Hid (Fm w [(w.heap.size, cpC c, 26), (w.heap.size + 1, pnC { p with Mode := 0 }, 30), (v4.heap.size, cpC N, 26)] y6) := K55.out.put 2 _ _ _ _ rfl hw6.out; have d25 := BoxC.fPh (K6.out.get 0 _ _ _ rfl); have d23 := BoxC.fOp (K6.out.get 0 _ _ _ rfl); rw [ho.out] at d23; have n25 := BoxC.fPh (K6.out.get 2 _ _ _ rfl); have n21 := BoxC.fIE (K6.out.get 2 _ _ _ rfl); have n23 := BoxC.fOp (K6.out.get 2 _ _ _ rfl); have p1 : y6.cell? ⟨w.heap.size + 1, 1, none⟩ = some (.int .u8 p.Data) := BoxP.fData (p := { p with Mode := 0 }) (K6.out.get 1 _ _ _ rfl); have p6 : y6.cell? ⟨w.heap.size + 1, 6, none⟩ = some (.bool p.DI) := BoxP.fDI (p := { p with Mode := 0 }) (K6.out.get 1 _ _ _ rfl); have p7 : y6.cell? ⟨w.heap.size + 1, 7, none⟩ = some (.bool p.DO) := BoxP.fDO (p := { p with Mode := 0 }) (K6.out.get 1 _ _ _ rfl); have p8 : y6.cell? ⟨w.heap.size + 1, 8, none⟩ = some (.bool p.Int_) := BoxP.fInt (p := { p with Mode := 0 }) (K6.out.get 1 _ _ _ rfl); rw [hph.out] at d25; rw [n1.out] at n25; rw [l1.out] at p6; rw [l2.out] at p7; rw [l3.out] at p8; rw [l4.out] at n21; refine stopAt ?_)
    | (refine at_loadC w.heap.size c (K4.out.get 0 _ _ _ rfl) _ rfl rfl rfl ?_)
    | (refine at_loadP (w.heap.size + 1) _ (K4.out.get 1 _ _ _ rfl) _ rfl rfl rfl ?_)
    | (refine at_loadC w.heap.size c (K1.out.get 0 _ _ _ rfl) _ rfl rfl rfl ?_))
  refine Stop.go ?_
  go_wp2
  all_goals go_ret
  all_goals exact ⟨by first | rfl | simp, K6.out.low⟩

theorem asked_3ie (w : World) (c : Cp) (hc : c.wf) (p : Pn) (hp : p.wf) (tb : Tabs w) (hch : checkB c = true) (N : Cp) (hN : goOnM c { p with Mode := 0 } = N) (h : c.Ph = 3) (h12 : c.Op / 16 = 12) (l1 : p.DI = false) (l2 : p.DO = false) (l3 : p.Int_ = true) (l4 : N.IE = false) (hPh : N.Ph = 1) : Calls Tryd.prog 5 #[.agg (cpC c), .agg (pnC p)] w fun e w' => e = .returned (.bool true) ∧ Below w.heap.size w w' := by
  have hA := fun v t => lawake v t
  have hM := fun v => lmay v c hc
  rw [hch] at hM
  have hS := fun v t => ystep v c hc { p with Mode := 0 } (pn_wf0 hp) t
  rw [step_run p hch, hN] at hS
  have hD := fun v t => ydrive v c hc t 0 (by decide)
  have zz := zeroVC
  have zd := zeroVD
  have tb' : Hid (Tabs w) := tb
  have hF : Hid (Fm w [(w.heap.size, cpC c, 26), (w.heap.size + 1, pnC p, 30)] ((w.alloc (.cells (cpC c) 26)).alloc (.cells (pnC p) 30))) := Fm.two w c p
  obtain ⟨o, ho⟩ : ∃ o : Int, (c.Op : Int) = o := ⟨_, rfl⟩
  have hph : (c.Ph : Int) = 3 := by omega
  have n1 : (N.Ph : Int) = 1 := by omega
  replace ho : Hid _ := ho
  replace hph : Hid _ := hph
  replace n1 : Hid _ := n1
  replace l1 : Hid _ := l1
  replace l2 : Hid _ := l2
  replace l3 : Hid _ := l3
  replace l4 : Hid _ := l4
  clear hc hp tb hch hN h hPh h12
  go_enter Tryd.func5, Tryd.ntmps5
  go_wp2_with (first
    | (refine gen_world ((w.alloc (.cells (cpC c) 26)).alloc (.cells (pnC p) 30)) (Fm w [(w.heap.size, cpC c, 26), (w.heap.size + 1, pnC p, 30)]) hF.out ?_; intro y K0)
    | (go_at_call 12; refine (hA _ (tb'.out.below K0.out.low)).mono ?_; rintro e v1 ⟨rfl, hb1⟩; have K1 : Hid _ := K0.out.below hb1)
    | (go_at_call 8; refine (hM _).mono ?_; rintro e v2 ⟨rfl, hb2⟩; have K2 : Hid _ := K1.out.below hb2; have dM := BoxP.fMode (K2.out.get 1 _ _ _ rfl); have fM := frozen_heap (K2.out.get 1 _ _ _ rfl) 0; have K3 : Hid (Fm w [(w.heap.size, cpC c, 26), (w.heap.size + 1, pnC { p with Mode := 0 }, 30)] (v2.setCell ⟨w.heap.size + 1, 0, none⟩ (.int .u8 0))) := K2.out.setCell 1 _ _ _ _ rfl 0 _ rfl)
    | (refine gen_world (v2.setCell ⟨w.heap.size + 1, 0, none⟩ (.int .u8 0)) (Fm w [(w.heap.size, cpC c, 26), (w.heap.size + 1, pnC { p with Mode := 0 }, 30)]) K3.out ?_; intro y3 K4)
    | (go_at_call 10; refine (hS _ (tb'.out.below K4.out.low)).mono ?_; rintro e v4 ⟨rfl, hb4⟩; have K5 : Hid _ := K4.out.below hb4)
    | (refine gen_world (v4.alloc (.cells (cpC zeroC) 26)) (Fm w [(w.heap.size, cpC c, 26), (w.heap.size + 1, pnC { p with Mode := 0 }, 30), (v4.heap.size, cpC zeroC, 26)]) (K5.out.new _ _) ?_; intro y5 K55)
    | (refine at_storeC v4.heap.size zeroC N (K55.out.get 2 _ _ _ rfl) _ _ rfl rfl rfl rfl ?_; intro y6 hw6; have K6 : Hid (Fm w [(w.heap.size, cpC c, 26), (w.heap.size + 1, pnC { p with Mode := 0 }, 30), (v4.heap.size, cpC N, 26)] y6) := K55.out.put 2 _ _ _ _ rfl hw6.out; have d25 := BoxC.fPh (K6.out.get 0 _ _ _ rfl); have d23 := BoxC.fOp (K6.out.get 0 _ _ _ rfl); rw [ho.out] at d23; have n25 := BoxC.fPh (K6.out.get 2 _ _ _ rfl); have n21 := BoxC.fIE (K6.out.get 2 _ _ _ rfl); have n23 := BoxC.fOp (K6.out.get 2 _ _ _ rfl); have p1 : y6.cell? ⟨w.heap.size + 1, 1, none⟩ = some (.int .u8 p.Data) := BoxP.fData (p := { p with Mode := 0 }) (K6.out.get 1 _ _ _ rfl); have p6 : y6.cell? ⟨w.heap.size + 1, 6, none⟩ = some (.bool p.DI) := BoxP.fDI (p := { p with Mode := 0 }) (K6.out.get 1 _ _ _ rfl); have p7 : y6.cell? ⟨w.heap.size + 1, 7, none⟩ = some (.bool p.DO) := BoxP.fDO (p := { p with Mode := 0 }) (K6.out.get 1 _ _ _ rfl); have p8 : y6.cell? ⟨w.heap.size + 1, 8, none⟩ = some (.bool p.Int_) := BoxP.fInt (p := { p with Mode := 0 }) (K6.out.get 1 _ _ _ rfl); rw [hph.out] at d25; rw [n1.out] at n25; rw [l1.out] at p6; rw [l2.out] at p7; rw [l3.out] at p8; rw [l4.out] at n21; refine stopAt ?_)
    | (refine at_loadC w.heap.size c (K4.out.get 0 _ _ _ rfl) _ rfl rfl rfl ?_)
    | (refine at_loadP (w.heap.size + 1) _ (K4.out.get 1 _ _ _ rfl) _ rfl rfl rfl ?_)
    | (refine at_loadC w.heap.size c (K1.out.get 0 _ _ _ rfl) _ rfl rfl rfl ?_))
  refine Stop.go ?_
  go_wp2
  all_goals go_ret
  all_goals exact ⟨by first | rfl | simp, K6.out.low⟩

theorem asked_3no (w : World) (c : Cp) (hc : c.wf) (p : Pn) (hp : p.wf) (tb : Tabs w) (hch : checkB c = true) (N : Cp) (hN : goOnM c { p with Mode := 0 } = N) (h : c.Ph = 3) (h12 : c.Op / 16 = 12) (l1 : p.DI = false) (l2 : p.DO = false) (l3 : p.Int_ = false) (hPh : N.Ph = 1) : Calls Tryd.prog 5 #[.agg (cpC c), .agg (pnC p)] w fun e w' => e = .returned (.bool true) ∧ Below w.heap.size w w' := by
  have hA := fun v t => lawake v t
  have hM := fun v => lmay v c hc
  rw [hch] at hM
  have hS := fun v t => ystep v c hc { p with Mode := 0 } (pn_wf0 hp) t
  rw [step_run p hch, hN] at hS
  have hD := fun v t => ydrive v c hc t 0 (by decide)
  have zz := zeroVC
  have zd := zeroVD
  have tb' : Hid (Tabs w) := tb
  have hF : Hid (Fm w [(w.heap.size, cpC c, 26), (w.heap.size + 1, pnC p, 30)] ((w.alloc (.cells (cpC c) 26)).alloc (.cells (pnC p) 30))) := Fm.two w c p
  obtain ⟨o, ho⟩ : ∃ o : Int, (c.Op : Int) = o := ⟨_, rfl⟩
  have hph : (c.Ph : Int) = 3 := by omega
  have n1 : (N.Ph : Int) = 1 := by omega
  replace ho : Hid _ := ho
  replace hph : Hid _ := hph
  replace n1 : Hid _ := n1
  replace l1 : Hid _ := l1
  replace l2 : Hid _ := l2
  replace l3 : Hid _ := l3
  clear hc hp tb hch hN h hPh h12
  go_enter Tryd.func5, Tryd.ntmps5
  go_wp2_with (first
    | (refine gen_world ((w.alloc (.cells (cpC c) 26)).alloc (.cells (pnC p) 30)) (Fm w [(w.heap.size, cpC c, 26), (w.heap.size + 1, pnC p, 30)]) hF.out ?_; intro y K0)
    | (go_at_call 12; refine (hA _ (tb'.out.below K0.out.low)).mono ?_; rintro e v1 ⟨rfl, hb1⟩; have K1 : Hid _ := K0.out.below hb1)
    | (go_at_call 8; refine (hM _).mono ?_; rintro e v2 ⟨rfl, hb2⟩; have K2 : Hid _ := K1.out.below hb2; have dM := BoxP.fMode (K2.out.get 1 _ _ _ rfl); have fM := frozen_heap (K2.out.get 1 _ _ _ rfl) 0; have K3 : Hid (Fm w [(w.heap.size, cpC c, 26), (w.heap.size + 1, pnC { p with Mode := 0 }, 30)] (v2.setCell ⟨w.heap.size + 1, 0, none⟩ (.int .u8 0))) := K2.out.setCell 1 _ _ _ _ rfl 0 _ rfl)
    | (refine gen_world (v2.setCell ⟨w.heap.size + 1, 0, none⟩ (.int .u8 0)) (Fm w [(w.heap.size, cpC c, 26), (w.heap.size + 1, pnC { p with Mode := 0 }, 30)]) K3.out ?_; intro y3 K4)
    | (go_at_call 10; refine (hS _ (tb'.out.below K4.out.low)).mono ?_; rintro e v4 ⟨rfl, hb4⟩; have K5 : Hid _ := K4.out.below hb4)
    | (refine gen_world (v4.alloc (.cells (cpC zeroC) 26)) (Fm w [(w.heap.size, cpC c, 26), (w.heap.size + 1, pnC { p with Mode := 0 }, 30), (v4.heap.size, cpC zeroC, 26)]) (K5.out.new _ _) ?_; intro y5 K55)
    | (refine at_storeC v4.heap.size zeroC N (K55.out.get 2 _ _ _ rfl) _ _ rfl rfl rfl rfl ?_; intro y6 hw6; have K6 : Hid (Fm w [(w.heap.size, cpC c, 26), (w.heap.size + 1, pnC { p with Mode := 0 }, 30), (v4.heap.size, cpC N, 26)] y6) := K55.out.put 2 _ _ _ _ rfl hw6.out; have d25 := BoxC.fPh (K6.out.get 0 _ _ _ rfl); have d23 := BoxC.fOp (K6.out.get 0 _ _ _ rfl); rw [ho.out] at d23; have n25 := BoxC.fPh (K6.out.get 2 _ _ _ rfl); have n21 := BoxC.fIE (K6.out.get 2 _ _ _ rfl); have n23 := BoxC.fOp (K6.out.get 2 _ _ _ rfl); have p1 : y6.cell? ⟨w.heap.size + 1, 1, none⟩ = some (.int .u8 p.Data) := BoxP.fData (p := { p with Mode := 0 }) (K6.out.get 1 _ _ _ rfl); have p6 : y6.cell? ⟨w.heap.size + 1, 6, none⟩ = some (.bool p.DI) := BoxP.fDI (p := { p with Mode := 0 }) (K6.out.get 1 _ _ _ rfl); have p7 : y6.cell? ⟨w.heap.size + 1, 7, none⟩ = some (.bool p.DO) := BoxP.fDO (p := { p with Mode := 0 }) (K6.out.get 1 _ _ _ rfl); have p8 : y6.cell? ⟨w.heap.size + 1, 8, none⟩ = some (.bool p.Int_) := BoxP.fInt (p := { p with Mode := 0 }) (K6.out.get 1 _ _ _ rfl); rw [hph.out] at d25; rw [n1.out] at n25; rw [l1.out] at p6; rw [l2.out] at p7; rw [l3.out] at p8; refine stopAt ?_)
    | (refine at_loadC w.heap.size c (K4.out.get 0 _ _ _ rfl) _ rfl rfl rfl ?_)
    | (refine at_loadP (w.heap.size + 1) _ (K4.out.get 1 _ _ _ rfl) _ rfl rfl rfl ?_)
    | (refine at_loadC w.heap.size c (K1.out.get 0 _ _ _ rfl) _ rfl rfl rfl ?_))
  refine Stop.go ?_
  go_wp2
  all_goals go_ret
  all_goals exact ⟨by first | rfl | simp, K6.out.low⟩

theorem asked_4di (w : World) (c : Cp) (hc : c.wf) (p : Pn) (hp : p.wf) (tb : Tabs w) (hch : checkB c = true) (N : Cp) (hN : goOnM c { p with Mode := 0 } = N) (h : c.Ph = 4) (h0 : c.Op = 0) (l1 : p.DI = true) (hPh : N.Ph = 6) : Calls Tryd.prog 5 #[.agg (cpC c), .agg (pnC p)] w fun e w' => e = .returned (.bool true) ∧ Below w.heap.size w w' := by
  have hA := fun v t => lawake v t
  have hM := fun v => lmay v c hc
  rw [hch] at hM
  have hS := fun v t => ystep v c hc { p with Mode := 0 } (pn_wf0 hp) t
  rw [step_run p hch, hN] at hS
  have hD := fun v t => ydrive v c hc t 0 (by decide)
  have zz := zeroVC
  have zd := zeroVD
  have tb' : Hid (Tabs w) := tb
  have hF : Hid (Fm w [(w.heap.size, cpC c, 26), (w.heap.size + 1, pnC p, 30)] ((w.alloc (.cells (cpC c) 26)).alloc (.cells (pnC p) 30))) := Fm.two w c p
  obtain ⟨o, ho⟩ : ∃ o : Int, (c.Op : Int) = o := ⟨_, rfl⟩
  have hph : (c.Ph : Int) = 4 := by omega
  have n1 : (N.Ph : Int) = 6 := by omega
  replace ho : Hid _ := ho
  replace hph : Hid _ := hph
  replace n1 : Hid _ := n1
  replace l1 : Hid _ := l1
  clear hc hp tb hch hN h hPh h0
  go_enter Tryd.func5, Tryd.ntmps5
  go_wp2_with (first
    | (refine gen_world ((w.alloc (.cells (cpC c) 26)).alloc (.cells (pnC p) 30)) (Fm w [(w.heap.size, cpC c, 26), (w.heap.size + 1, pnC p, 30)]) hF.out ?_; intro y K0)
    | (go_at_call 12; refine (hA _ (tb'.out.below K0.out.low)).mono ?_; rintro e v1 ⟨rfl, hb1⟩; have K1 : Hid _ := K0.out.below hb1)
    | (go_at_call 8; refine (hM _).mono ?_; rintro e v2 ⟨rfl, hb2⟩; have K2 : Hid _ := K1.out.below hb2; have dM := BoxP.fMode (K2.out.get 1 _ _ _ rfl); have fM := frozen_heap (K2.out.get 1 _ _ _ rfl) 0; have K3 : Hid (Fm w [(w.heap.size, cpC c, 26), (w.heap.size + 1, pnC { p with Mode := 0 }, 30)] (v2.setCell ⟨w.heap.size + 1, 0, none⟩ (.int .u8 0))) := K2.out.setCell 1 _ _ _ _ rfl 0 _ rfl)
    | (refine gen_world (v2.setCell ⟨w.heap.size + 1, 0, none⟩ (.int .u8 0)) (Fm w [(w.heap.size, cpC c, 26), (w.heap.size + 1, pnC { p with Mode := 0 }, 30)]) K3.out ?_; intro y3 K4)
    | (go_at_call 10; refine (hS _ (tb'.out.below K4.out.low)).mono ?_; rintro e v4 ⟨rfl, hb4⟩; have K5 : Hid _ := K4.out.below hb4)
    | (refine gen_world (v4.alloc (.cells (cpC zeroC) 26)) (Fm w [(w.heap.size, cpC c, 26), (w.heap.size + 1, pnC { p with Mode := 0 }, 30), (v4.heap.size, cpC zeroC, 26)]) (K5.out.new _ _) ?_; intro y5 K55)
    | (refine at_storeC v4.heap.size zeroC N (K55.out.get 2 _ _ _ rfl) _ _ rfl rfl rfl rfl ?_; intro y6 hw6; have K6 : Hid (Fm w [(w.heap.size, cpC c, 26), (w.heap.size + 1, pnC { p with Mode := 0 }, 30), (v4.heap.size, cpC N, 26)] y6) := K55.out.put 2 _ _ _ _ rfl hw6.out; have d25 := BoxC.fPh (K6.out.get 0 _ _ _ rfl); have d23 := BoxC.fOp (K6.out.get 0 _ _ _ rfl); rw [ho.out] at d23; have n25 := BoxC.fPh (K6.out.get 2 _ _ _ rfl); have n21 := BoxC.fIE (K6.out.get 2 _ _ _ rfl); have n23 := BoxC.fOp (K6.out.get 2 _ _ _ rfl); have p1 : y6.cell? ⟨w.heap.size + 1, 1, none⟩ = some (.int .u8 p.Data) := BoxP.fData (p := { p with Mode := 0 }) (K6.out.get 1 _ _ _ rfl); have p6 : y6.cell? ⟨w.heap.size + 1, 6, none⟩ = some (.bool p.DI) := BoxP.fDI (p := { p with Mode := 0 }) (K6.out.get 1 _ _ _ rfl); have p7 : y6.cell? ⟨w.heap.size + 1, 7, none⟩ = some (.bool p.DO) := BoxP.fDO (p := { p with Mode := 0 }) (K6.out.get 1 _ _ _ rfl); have p8 : y6.cell? ⟨w.heap.size + 1, 8, none⟩ = some (.bool p.Int_) := BoxP.fInt (p := { p with Mode := 0 }) (K6.out.get 1 _ _ _ rfl); rw [hph.out] at d25; rw [n1.out] at n25; rw [l1.out] at p6; refine stopAt ?_)
    | (refine at_loadC w.heap.size c (K4.out.get 0 _ _ _ rfl) _ rfl rfl rfl ?_)
    | (refine at_loadP (w.heap.size + 1) _ (K4.out.get 1 _ _ _ rfl) _ rfl rfl rfl ?_)
    | (refine at_loadC w.heap.size c (K1.out.get 0 _ _ _ rfl) _ rfl rfl rfl ?_))
  refine Stop.go ?_
  go_wp2
  all_goals go_ret
  all_goals exact ⟨by first | rfl | simp, K6.out.low⟩

theorem asked_4do (w : World) (c : Cp) (hc : c.wf) (p : Pn) (hp : p.wf) (tb : Tabs w) (hch : checkB c = true) (N : Cp) (hN : goOnM c { p with Mode := 0 } = N) (h : c.Ph = 4) (h0 : c.Op = 0) (l1 : p.DI = false) (l2 : p.DO = true) (hPh : N.Ph = 7) : Calls Tryd.prog 5 #[.agg (cpC c), .agg (pnC p)] w fun e w' => e = .returned (.bool true) ∧ Below w.heap.size w w' := by
  have hA := fun v t => lawake v t
  have hM := fun v => lmay v c hc
  rw [hch] at hM
  have hS := fun v t => ystep v c hc { p with Mode := 0 } (pn_wf0 hp) t
  rw [step_run p hch, hN] at hS
  have hD := fun v t => ydrive v c hc t 0 (by decide)
  have zz := zeroVC
  have zd := zeroVD
  have tb' : Hid (Tabs w) := tb
  have hF : Hid (Fm w [(w.heap.size, cpC c, 26), (w.heap.size + 1, pnC p, 30)] ((w.alloc (.cells (cpC c) 26)).alloc (.cells (pnC p) 30))) := Fm.two w c p
  obtain ⟨o, ho⟩ : ∃ o : Int, (c.Op : Int) = o := ⟨_, rfl⟩
  have hph : (c.Ph : Int) = 4 := by omega
  have n1 : (N.Ph : Int) = 7 := by omega
  replace ho : Hid _ := ho
  replace hph : Hid _ := hph
  replace n1 : Hid _ := n1
  replace l1 : Hid _ := l1
  replace l2 : Hid _ := l2
  clear hc hp tb hch hN h hPh h0
  go_enter Tryd.func5, Tryd.ntmps5
  go_wp2_with (first
    | (refine gen_world ((w.alloc (.cells (cpC c) 26)).alloc (.cells (pnC p) 30)) (Fm w [(w.heap.size, cpC c, 26), (w.heap.size + 1, pnC p, 30)]) hF.out ?_; intro y K0)
    | (go_at_call 12; refine (hA _ (tb'.out.below K0.out.low)).mono ?_; rintro e v1 ⟨rfl, hb1⟩; have K1 : Hid _ := K0.out.below hb1)
    | (go_at_call 8; refine (hM _).mono ?_; rintro e v2 ⟨rfl, hb2⟩; have K2 : Hid _ := K1.out.below hb2; have dM := BoxP.fMode (K2.out.get 1 _ _ _ rfl); have fM := frozen_heap (K2.out.get 1 _ _ _ rfl) 0; have K3 : Hid (Fm w [(w.heap.size, cpC c, 26), (w.heap.size + 1, pnC { p with Mode := 0 }, 30)] (v2.setCell ⟨w.heap.size + 1, 0, none⟩ (.int .u8 0))) := K2.out.setCell 1 _ _ _ _ rfl 0 _ rfl)
    | (refine gen_world (v2.setCell ⟨w.heap.size + 1, 0, none⟩ (.int .u8 0)) (Fm w [(w.heap.size, cpC c, 26), (w.heap.size + 1, pnC { p with Mode := 0 }, 30)]) K3.out ?_; intro y3 K4)
    | (go_at_call 10; refine (hS _ (tb'.out.below K4.out.low)).mono ?_; rintro e v4 ⟨rfl, hb4⟩; have K5 : Hid _ := K4.out.below hb4)
    | (refine gen_world (v4.alloc (.cells (cpC zeroC) 26)) (Fm w [(w.heap.size, cpC c, 26), (w.heap.size + 1, pnC { p with Mode := 0 }, 30), (v4.heap.size, cpC zeroC, 26)]) (K5.out.new _ _) ?_; intro y5 K55)
    | (refine at_storeC v4.heap.size zeroC N (K55.out.get 2 _ _ _ rfl) _ _ rfl rfl rfl rfl ?_; intro y6 hw6; have K6 : Hid (Fm w [(w.heap.size, cpC c, 26), (w.heap.size + 1, pnC { p with Mode := 0 }, 30), (v4.heap.size, cpC N, 26)] y6) := K55.out.put 2 _ _ _ _ rfl hw6.out; have d25 := BoxC.fPh (K6.out.get 0 _ _ _ rfl); have d23 := BoxC.fOp (K6.out.get 0 _ _ _ rfl); rw [ho.out] at d23; have n25 := BoxC.fPh (K6.out.get 2 _ _ _ rfl); have n21 := BoxC.fIE (K6.out.get 2 _ _ _ rfl); have n23 := BoxC.fOp (K6.out.get 2 _ _ _ rfl); have p1 : y6.cell? ⟨w.heap.size + 1, 1, none⟩ = some (.int .u8 p.Data) := BoxP.fData (p := { p with Mode := 0 }) (K6.out.get 1 _ _ _ rfl); have p6 : y6.cell? ⟨w.heap.size + 1, 6, none⟩ = some (.bool p.DI) := BoxP.fDI (p := { p with Mode := 0 }) (K6.out.get 1 _ _ _ rfl); have p7 : y6.cell? ⟨w.heap.size + 1, 7, none⟩ = some (.bool p.DO) := BoxP.fDO (p := { p with Mode := 0 }) (K6.out.get 1 _ _ _ rfl); have p8 : y6.cell? ⟨w.heap.size + 1, 8, none⟩ = some (.bool p.Int_) := BoxP.fInt (p := { p with Mode := 0 }) (K6.out.get 1 _ _ _ rfl); rw [hph.out] at d25; rw [n1.out] at n25; rw [l1.out] at p6; rw [l2.out] at p7; refine stopAt ?_)
    | (refine at_loadC w.heap.size c (K4.out.get 0 _ _ _ rfl) _ rfl rfl rfl ?_)
    | (refine at_loadP (w.heap.size + 1) _ (K4.out.get 1 _ _ _ rfl) _ rfl rfl rfl ?_)
    | (refine at_loadC w.heap.size c (K1.out.get 0 _ _ _ rfl) _ rfl rfl rfl ?_))
  refine Stop.go ?_
  go_wp2
  all_goals go_ret
  all_goals exact ⟨by first | rfl | simp, K6.out.low⟩

theorem asked_4in (w : World) (c : Cp) (hc : c.wf) (p : Pn) (hp : p.wf) (tb : Tabs w) (hch : checkB c = true) (N : Cp) (hN : goOnM c { p with Mode := 0 } = N) (h : c.Ph = 4) (h0 : c.Op = 0) (l1 : p.DI = false) (l2 : p.DO = false) (l3 : p.Int_ = true) (l4 : N.IE = true) (hPh : N.Ph = 8) : Calls Tryd.prog 5 #[.agg (cpC c), .agg (pnC p)] w fun e w' => e = .returned (.bool true) ∧ Below w.heap.size w w' := by
  have hA := fun v t => lawake v t
  have hM := fun v => lmay v c hc
  rw [hch] at hM
  have hS := fun v t => ystep v c hc { p with Mode := 0 } (pn_wf0 hp) t
  rw [step_run p hch, hN] at hS
  have hD := fun v t => ydrive v c hc t 0 (by decide)
  have zz := zeroVC
  have zd := zeroVD
  have tb' : Hid (Tabs w) := tb
  have hF : Hid (Fm w [(w.heap.size, cpC c, 26), (w.heap.size + 1, pnC p, 30)] ((w.alloc (.cells (cpC c) 26)).alloc (.cells (pnC p) 30))) := Fm.two w c p
  obtain ⟨o, ho⟩ : ∃ o : Int, (c.Op : Int) = o := ⟨_, rfl⟩
  have hph : (c.Ph : Int) = 4 := by omega
  have n1 : (N.Ph : Int) = 8 := by omega
  replace ho : Hid _ := ho
  replace hph : Hid _ := hph
  replace n1 : Hid _ := n1
  replace l1 : Hid _ := l1
  replace l2 : Hid _ := l2
  replace l3 : Hid _ := l3
  replace l4 : Hid _ := l4
  clear hc hp tb hch hN h hPh h0
  go_enter Tryd.func5, Tryd.ntmps5
  go_wp2_with (first
    | (refine gen_world ((w.alloc (.cells (cpC c) 26)).alloc (.cells (pnC p) 30)) (Fm w [(w.heap.size, cpC c, 26), (w.heap.size + 1, pnC p, 30)]) hF.out ?_; intro y K0)
    | (go_at_call 12; refine (hA _ (tb'.out.below K0.out.low)).mono ?_; rintro e v1 ⟨rfl, hb1⟩; have K1 : Hid _ := K0.out.below hb1)
    | (go_at_call 8; refine (hM _).mono ?_; rintro e v2 ⟨rfl, hb2⟩; have K2 : Hid _ := K1.out.below hb2; have dM := BoxP.fMode (K2.out.get 1 _ _ _ rfl); have fM := frozen_heap (K2.out.get 1 _ _ _ rfl) 0; have K3 : Hid (Fm w [(w.heap.size, cpC c, 26), (w.heap.size + 1, pnC { p with Mode := 0 }, 30)] (v2.setCell ⟨w.heap.size + 1, 0, none⟩ (.int .u8 0))) := K2.out.setCell 1 _ _ _ _ rfl 0 _ rfl)
    | (refine gen_world (v2.setCell ⟨w.heap.size + 1, 0, none⟩ (.int .u8 0)) (Fm w [(w.heap.size, cpC c, 26), (w.heap.size + 1, pnC { p with Mode := 0 }, 30)]) K3.out ?_; intro y3 K4)
    | (go_at_call 10; refine (hS _ (tb'.out.below K4.out.low)).mono ?_; rintro e v4 ⟨rfl, hb4⟩; have K5 : Hid _ := K4.out.below hb4)
    | (refine gen_world (v4.alloc (.cells (cpC zeroC) 26)) (Fm w [(w.heap.size, cpC c, 26), (w.heap.size + 1, pnC { p with Mode := 0 }, 30), (v4.heap.size, cpC zeroC, 26)]) (K5.out.new _ _) ?_; intro y5 K55)
    | (refine at_storeC v4.heap.size zeroC N (K55.out.get 2 _ _ _ rfl) _ _ rfl rfl rfl rfl ?_; intro y6 hw6; have K6 : Hid (Fm w [(w.heap.size, cpC c, 26), (w.heap.size + 1, pnC { p with Mode := 0 }, 30), (v4.heap.size, cpC N, 26)] y6) := K55.out.put 2 _ _ _ _ rfl hw6.out; have d25 := BoxC.fPh (K6.out.get 0 _ _ _ rfl); have d23 := BoxC.fOp (K6.out.get 0 _ _ _ rfl); rw [ho.out] at d23; have n25 := BoxC.fPh (K6.out.get 2 _ _ _ rfl); have n21 := BoxC.fIE (K6.out.get 2 _ _ _ rfl); have n23 := BoxC.fOp (K6.out.get 2 _ _ _ rfl); have p1 : y6.cell? ⟨w.heap.size + 1, 1, none⟩ = some (.int .u8 p.Data) := BoxP.fData (p := { p with Mode := 0 }) (K6.out.get 1 _ _ _ rfl); have p6 : y6.cell? ⟨w.heap.size + 1, 6, none⟩ = some (.bool p.DI) := BoxP.fDI (p := { p with Mode := 0 }) (K6.out.get 1 _ _ _ rfl); have p7 : y6.cell? ⟨w.heap.size + 1, 7, none⟩ = some (.bool p.DO) := BoxP.fDO (p := { p with Mode := 0 }) (K6.out.get 1 _ _ _ rfl); have p8 : y6.cell? ⟨w.heap.size + 1, 8, none⟩ = some (.bool p.Int_) := BoxP.fInt (p := { p with Mode := 0 }) (K6.out.get 1 _ _ _ rfl); rw [hph.out] at d25; rw [n1.out] at n25; rw [l1.out] at p6; rw [l2.out] at p7; rw [l3.out] at p8; rw [l4.out] at n21; refine stopAt ?_)
    | (refine at_loadC w.heap.size c (K4.out.get 0 _ _ _ rfl) _ rfl rfl rfl ?_)
    | (refine at_loadP (w.heap.size + 1) _ (K4.out.get 1 _ _ _ rfl) _ rfl rfl rfl ?_)
    | (refine at_loadC w.heap.size c (K1.out.get 0 _ _ _ rfl) _ rfl rfl rfl ?_))
  refine Stop.go ?_
  go_wp2
  all_goals go_ret
  all_goals exact ⟨by first | rfl | simp, K6.out.low⟩

theorem asked_4ie (w : World) (c : Cp) (hc : c.wf) (p : Pn) (hp : p.wf) (tb : Tabs w) (hch : checkB c = true) (N : Cp) (hN : goOnM c { p with Mode := 0 } = N) (h : c.Ph = 4) (h0 : c.Op = 0) (l1 : p.DI = false) (l2 : p.DO = false) (l3 : p.Int_ = true) (l4 : N.IE = false) (hPh : N.Ph = 4) : Calls Tryd.prog 5 #[.agg (cpC c), .agg (pnC p)] w fun e w' => e = .returned (.bool true) ∧ Below w.heap.size w w' := by
  have hA := fun v t => lawake v t
  have hM := fun v => lmay v c hc
  rw [hch] at hM
  have hS := fun v t => ystep v c hc { p with Mode := 0 } (pn_wf0 hp) t
  rw [step_run p hch, hN] at hS
  have hD := fun v t => ydrive v c hc t 0 (by decide)
  have zz := zeroVC
  have zd := zeroVD
  have tb' : Hid (Tabs w) := tb
  have hF : Hid (Fm w [(w.heap.size, cpC c, 26), (w.heap.size + 1, pnC p, 30)] ((w.alloc (.cells (cpC c) 26)).alloc (.cells (pnC p) 30))) := Fm.two w c p
  obtain ⟨o, ho⟩ : ∃ o : Int, (c.Op : Int) = o := ⟨_, rfl⟩
  have hph : (c.Ph : Int) = 4 := by omega
  have n1 : (N.Ph : Int) = 4 := by omega
  replace ho : Hid _ := ho
  replace hph : Hid _ := hph
  replace n1 : Hid _ := n1
  replace l1 : Hid _ := l1
  replace l2 : Hid _ := l2
  replace l3 : Hid _ := l3
  replace l4 : Hid _ := l4
  clear hc hp tb hch hN h hPh h0
  go_enter Tryd.func5, Tryd.ntmps5
  go_wp2_with (first
    | (refine gen_world ((w.alloc (.cells (cpC c) 26)).alloc (.cells (pnC p) 30)) (Fm w [(w.heap.size, cpC c, 26), (w.heap.size + 1, pnC p, 30)]) hF.out ?_; intro y K0)
    | (go_at_call 12; refine (hA _ (tb'.out.below K0.out.low)).mono ?_; rintro e v1 ⟨rfl, hb1⟩; have K1 : Hid _ := K0.out.below hb1)
    | (go_at_call 8; refine (hM _).mono ?_; rintro e v2 ⟨rfl, hb2⟩; have K2 : Hid _ := K1.out.below hb2; have dM := BoxP.fMode (K2.out.get 1 _ _ _ rfl); have fM := frozen_heap (K2.out.get 1 _ _ _ rfl) 0; have K3 : Hid (Fm w [(w.heap.size, cpC c, 26), (w.heap.size + 1, pnC { p with Mode := 0 }, 30)] (v2.setCell ⟨w.heap.size + 1, 0, none⟩ (.int .u8 0))) := K2.out.setCell 1 _ _ _ _ rfl 0 _ rfl)
    | (refine gen_world (v2.setCell ⟨w.heap.size + 1, 0, none⟩ (.int .u8 0)) (Fm w [(w.heap.size, cpC c, 26), (w.heap.size + 1, pnC { p with Mode := 0 }, 30)]) K3.out ?_; intro y3 K4)
    | (go_at_call 10; refine (hS _ (tb'.out.below K4.out.low)).mono ?_; rintro e v4 ⟨rfl, hb4⟩; have K5 : Hid _ := K4.out.below hb4)
    | (refine gen_world (v4.alloc (.cells (cpC zeroC) 26)) (Fm w [(w.heap.size, cpC c, 26), (w.heap.size + 1, pnC { p with Mode := 0 }, 30), (v4.heap.size, cpC zeroC, 26)]) (K5.out.new _ _) ?_; intro y5 K55)
    | (refine at_storeC v4.heap.size zeroC N (K55.out.get 2 _ _ _ rfl) _ _ rfl rfl rfl rfl ?_; intro y6 hw6; have K6 : Hid (Fm w [(w.heap.size, cpC c, 26), (w.heap.size + 1, pnC { p with Mode := 0 }, 30), (v4.heap.size, cpC N, 26)] y6) := K55.out.put 2 _ _ _ _ rfl hw6.out; have d25 := BoxC.fPh (K6.out.get 0 _ _ _ rfl); have d23 := BoxC.fOp (K6.out.get 0 _ _ _ rfl); rw [ho.out] at d23; have n25 := BoxC.fPh (K6.out.get 2 _ _ _ rfl); have n21 := BoxC.fIE (K6.out.get 2 _ _ _ rfl); have n23 := BoxC.fOp (K6.out.get 2 _ _ _ rfl); have p1 : y6.cell? ⟨w.heap.size + 1, 1, none⟩ = some (.int .u8 p.Data) := BoxP.fData (p := { p with Mode := 0 }) (K6.out.get 1 _ _ _ rfl); have p6 : y6.cell? ⟨w.heap.size + 1, 6, none⟩ = some (.bool p.DI) := BoxP.fDI (p := { p with Mode := 0 }) (K6.out.get 1 _ _ _ rfl); have p7 : y6.cell? ⟨w.heap.size + 1, 7, none⟩ = some (.bool p.DO) := BoxP.fDO (p := { p with Mode := 0 }) (K6.out.get 1 _ _ _ rfl); have p8 : y6.cell? ⟨w.heap.size + 1, 8, none⟩ = some (.bool p.Int_) := BoxP.fInt (p := { p with Mode := 0 }) (K6.out.get 1 _ _ _ rfl); rw [hph.out] at d25; rw [n1.out] at n25; rw [l1.out] at p6; rw [l2.out] at p7; rw [l3.out] at p8; rw [l4.out] at n21; refine stopAt ?_)
    | (refine at_loadC w.heap.size c (K4.out.get 0 _ _ _ rfl) _ rfl rfl rfl ?_)
    | (refine at_loadP (w.heap.size + 1) _ (K4.out.get 1 _ _ _ rfl) _ rfl rfl rfl ?_)
    | (refine at_loadC w.heap.size c (K1.out.get 0 _ _ _ rfl) _ rfl rfl rfl ?_))
  refine Stop.go ?_
  go_wp2
  all_goals go_ret
  all_goals exact ⟨by first | rfl | simp, K6.out.low⟩

theorem asked_4no (w : World) (c : Cp) (hc : c.wf) (p : Pn) (hp : p.wf) (tb : Tabs w) (hch : checkB c = true) (N : Cp) (hN : goOnM c { p with Mode := 0 } = N) (h : c.Ph = 4) (h0 : c.Op = 0) (l1 : p.DI = false) (l2 : p.DO = false) (l3 : p.Int_ = false) (hPh : N.Ph = 4) : Calls Tryd.prog 5 #[.agg (cpC c), .agg (pnC p)] w fun e w' => e = .returned (.bool true) ∧ Below w.heap.size w w' := by
  have hA := fun v t => lawake v t
  have hM := fun v => lmay v c hc
  rw [hch] at hM
  have hS := fun v t => ystep v c hc { p with Mode := 0 } (pn_wf0 hp) t
  rw [step_run p hch, hN] at hS
  have hD := fun v t => ydrive v c hc t 0 (by decide)
  have zz := zeroVC
  have zd := zeroVD
  have tb' : Hid (Tabs w) := tb
  have hF : Hid (Fm w [(w.heap.size, cpC c, 26), (w.heap.size + 1, pnC p, 30)] ((w.alloc (.cells (cpC c) 26)).alloc (.cells (pnC p) 30))) := Fm.two w c p
  obtain ⟨o, ho⟩ : ∃ o : Int, (c.Op : Int) = o := ⟨_, rfl⟩
  have hph : (c.Ph : Int) = 4 := by omega
  have n1 : (N.Ph : Int) = 4 := by omega
  replace ho : Hid _ := ho
  replace hph : Hid _ := hph
  replace n1 : Hid _ := n1
  replace l1 : Hid _ := l1
  replace l2 : Hid _ := l2
  replace l3 : Hid _ := l3
  clear hc hp tb hch hN h hPh h0
  go_enter Tryd.func5, Tryd.ntmps5
  go_wp2_with (first
    | (refine gen_world ((w.alloc (.cells (cpC c) 26)).alloc (.cells (pnC p) 30)) (Fm w [(w.heap.size, cpC c, 26), (w.heap.size + 1, pnC p, 30)]) hF.out ?_; intro y K0)
    | (go_at_call 12; refine (hA _ (tb'.out.below K0.out.low)).mono ?_; rintro e v1 ⟨rfl, hb1⟩; have K1 : Hid _ := K0.out.below hb1)
    | (go_at_call 8; refine (hM _).mono ?_; rintro e v2 ⟨rfl, hb2⟩; have K2 : Hid _ := K1.out.below hb2; have dM := BoxP.fMode (K2.out.get 1 _ _ _ rfl); have fM := frozen_heap (K2.out.get 1 _ _ _ rfl) 0; have K3 : Hid (Fm w [(w.heap.size, cpC c, 26), (w.heap.size + 1, pnC { p with Mode := 0 }, 30)] (v2.setCell ⟨w.heap.size + 1, 0, none⟩ (.int .u8 0))) := K2.out.setCell 1 _ _ _ _ rfl 0 _ rfl)
    | (refine gen_world (v2.setCell ⟨w.heap.size + 1, 0, none⟩ (.int .u8 0)) (Fm w [(w.heap.size, cpC c, 26), (w.heap.size + 1, pnC { p with Mode := 0 }, 30)]) K3.out ?_; intro y3 K4)
    | (go_at_call 10; refine (hS _ (tb'.out.below K4.out.low)).mono ?_; rintro e v4 ⟨rfl, hb4⟩; have K5 : Hid _ := K4.out.below hb4)
    | (refine gen_world (v4.alloc (.cells (cpC zeroC) 26)) (Fm w [(w.heap.size, cpC c, 26), (w.heap.size + 1, pnC { p with Mode := 0 }, 30), (v4.heap.size, cpC zeroC, 26)]) (K5.out.new _ _) ?_; intro y5 K55)
    | (refine at_storeC v4.heap.size zeroC N (K55.out.get 2 _ _ _ rfl) _ _ rfl rfl rfl rfl ?_; intro y6 hw6; have K6 : Hid (Fm w [(w.heap.size, cpC c, 26), (w.heap.size + 1, pnC { p with Mode := 0 }, 30), (v4.heap.size, cpC N, 26)] y6) := K55.out.put 2 _ _ _ _ rfl hw6.out; have d25 := BoxC.fPh (K6.out.get 0 _ _ _ rfl); have d23 := BoxC.fOp (K6.out.get 0 _ _ _ rfl); rw [ho.out] at d23; have n25 := BoxC.fPh (K6.out.get 2 _ _ _ rfl); have n21 := BoxC.fIE (K6.out.get 2 _ _ _ rfl); have n23 := BoxC.fOp (K6.out.get 2 _ _ _ rfl); have p1 : y6.cell? ⟨w.heap.size + 1, 1, none⟩ = some (.int .u8 p.Data) := BoxP.fData (p := { p with Mode := 0 }) (K6.out.get 1 _ _ _ rfl); have p6 : y6.cell? ⟨w.heap.size + 1, 6, none⟩ = some (.bool p.DI) := BoxP.fDI (p := { p with Mode := 0 }) (K6.out.get 1 _ _ _ rfl); have p7 : y6.cell? ⟨w.heap.size + 1, 7, none⟩ = some (.bool p.DO) := BoxP.fDO (p := { p with Mode := 0 }) (K6.out.get 1 _ _ _ rfl); have p8 : y6.cell? ⟨w.heap.size + 1, 8, none⟩ = some (.bool p.Int_) := BoxP.fInt (p := { p with Mode := 0 }) (K6.out.get 1 _ _ _ rfl); rw [hph.out] at d25; rw [n1.out] at n25; rw [l1.out] at p6; rw [l2.out] at p7; rw [l3.out] at p8; refine stopAt ?_)
    | (refine at_loadC w.heap.size c (K4.out.get 0 _ _ _ rfl) _ rfl rfl rfl ?_)
    | (refine at_loadP (w.heap.size + 1) _ (K4.out.get 1 _ _ _ rfl) _ rfl rfl rfl ?_)
    | (refine at_loadC w.heap.size c (K1.out.get 0 _ _ _ rfl) _ rfl rfl rfl ?_))
  refine Stop.go ?_
  go_wp2
  all_goals go_ret
  all_goals exact ⟨by first | rfl | simp, K6.out.low⟩

theorem asked_5di (w : World) (c : Cp) (hc : c.wf) (p : Pn) (hp : p.wf) (tb : Tabs w) (hch : checkB c = true) (N : Cp) (hN : goOnM c { p with Mode := 0 } = N) (h : c.Ph = 5) (h0 : c.Op = 0) (l1 : p.DI = true) (hPh : N.Ph = 6) : Calls Tryd.prog 5 #[.agg (cpC c), .agg (pnC p)] w fun e w' => e = .returned (.bool true) ∧ Below w.heap.size w w' := by
  have hA := fun v t => lawake v t
  have hM := fun v => lmay v c hc
  rw [hch] at hM
  have hS := fun v t => ystep v c hc { p with Mode := 0 } (pn_wf0 hp) t
  rw [step_run p hch, hN] at hS
  have hD := fun v t => ydrive v c hc t 0 (by decide)
  have zz := zeroVC
  have zd := zeroVD
  have tb' : Hid (Tabs w) := tb
  have hF : Hid (Fm w [(w.heap.size, cpC c, 26), (w.heap.size + 1, pnC p, 30)] ((w.alloc (.cells (cpC c) 26)).alloc (.cells (pnC p) 30))) := Fm.two w c p
  obtain ⟨o, ho⟩ : ∃ o : Int, (c.Op : Int) = o := ⟨_, rfl⟩
  have hph : (c.Ph : Int) = 5 := by omega
  have n1 : (N.Ph : Int) = 6 := by omega
  replace ho : Hid _ := ho
  replace hph : Hid _ := hph
  replace n1 : Hid _ := n1
  replace l1 : Hid _ := l1
  clear hc hp tb hch hN h hPh h0
  go_enter Tryd.func5, Tryd.ntmps5
  go_wp2_with (first
    | (refine gen_world ((w.alloc (.cells (cpC c) 26)).alloc (.cells (pnC p) 30)) (Fm w [(w.heap.size, cpC c, 26), (w.heap.size + 1, pnC p, 30)]) hF.out ?_; intro y K0)
    | (go_at_call 12; refine (hA _ (tb'.out.below K0.out.low)).mono ?_; rintro e v1 ⟨rfl, hb1⟩; have K1 : Hid _ := K0.out.below hb1)
    | (go_at_call 8; refine (hM _).mono ?_; rintro e v2 ⟨rfl, hb2⟩; have K2 : Hid _ := K1.out.below hb2; have dM := BoxP.fMode (K2.out.get 1 _ _ _ rfl); have fM := frozen_heap (K2.out.get 1 _ _ _ rfl) 0; have K3 : Hid (Fm w [(w.heap.size, cpC c, 26), (w.heap.size + 1, pnC { p with Mode := 0 }, 30)] (v2.setCell ⟨w.heap.size + 1, 0, none⟩ (.int .u8 0))) := K2.out.setCell 1 _ _ _ _ rfl 0 _ rfl)
    | (refine gen_world (v2.setCell ⟨w.heap.size + 1, 0, none⟩ (.int .u8 0)) (Fm w [(w.heap.size, cpC c, 26), (w.heap.size + 1, pnC { p with Mode := 0 }, 30)]) K3.out ?_; intro y3 K4)
    | (go_at_call 10; refine (hS _ (tb'.out.below K4.out.low)).mono ?_; rintro e v4 ⟨rfl, hb4⟩; have K5 : Hid _ := K4.out.below hb4)
    | (refine gen_world (v4.alloc (.cells (cpC zeroC) 26)) (Fm w [(w.heap.size, cpC c, 26), (w.heap.size + 1, pnC { p with Mode := 0 }, 30), (v4.heap.size, cpC zeroC, 26)]) (K5.out.new _ _) ?_; intro y5 K55)
    | (refine at_storeC v4.heap.size zeroC N (K55.out.get 2 _ _ _ rfl) _ _ rfl rfl rfl rfl ?_; intro y6 hw6; have K6 : Hid (Fm w [(w.heap.size, cpC c, 26), (w.heap.size + 1, pnC { p with Mode := 0 }, 30), (v4.heap.size, cpC N, 26)] y6) := K55.out.put 2 _ _ _ _ rfl hw6.out; have d25 := BoxC.fPh (K6.out.get 0 _ _ _ rfl); have d23 := BoxC.fOp (K6.out.get 0 _ _ _ rfl); rw [ho.out] at d23; have n25 := BoxC.fPh (K6.out.get 2 _ _ _ rfl); have n21 := BoxC.fIE (K6.out.get 2 _ _ _ rfl); have n23 := BoxC.fOp (K6.out.get 2 _ _ _ rfl); have p1 : y6.cell? ⟨w.heap.size + 1, 1, none⟩ = some (.int .u8 p.Data) := BoxP.fData (p := { p with Mode := 0 }) (K6.out.get 1 _ _ _ rfl); have p6 : y6.cell? ⟨w.heap.size + 1, 6, none⟩ = some (.bool p.DI) := BoxP.fDI (p := { p with Mode := 0 }) (K6.out.get 1 _ _ _ rfl); have p7 : y6.cell? ⟨w.heap.size + 1, 7, none⟩ = some (.bool p.DO) := BoxP.fDO (p := { p with Mode := 0 }) (K6.out.get 1 _ _ _ rfl); have p8 : y6.cell? ⟨w.heap.size + 1, 8, none⟩ = some (.bool p.Int_) := BoxP.fInt (p := { p with Mode := 0 }) (K6.out.get 1 _ _ _ rfl); rw [hph.out] at d25; rw [n1.out] at n25; rw [l1.out] at p6; refine stopAt ?_)
    | (refine at_loadC w.heap.size c (K4.out.get 0 _ _ _ rfl) _ rfl rfl rfl ?_)
    | (refine at_loadP (w.heap.size + 1) _ (K4.out.get 1 _ _ _ rfl) _ rfl rfl rfl ?_)
    | (refine at_loadC w.heap.size c (K1.out.get 0 _ _ _ rfl) _ rfl rfl rfl ?_))
  refine Stop.go ?_
  go_wp2
  all_goals go_ret
  all_goals exact ⟨by first | rfl | simp, K6.out.low⟩

theorem asked_5do (w : World) (c : Cp) (hc : c.wf) (p : Pn) (hp : p.wf) (tb : Tabs w) (hch : checkB c = true) (N : Cp) (hN : goOnM c { p with Mode := 0 } = N) (h : c.Ph = 5) (h0 : c.Op = 0) (l1 : p.DI = false) (l2 : p.DO = true) (hPh : N.Ph = 7) : Calls Tryd.prog 5 #[.agg (cpC c), .agg (pnC p)] w fun e w' => e = .returned (.bool true) ∧ Below w.heap.size w w' := by
  have hA := fun v t => lawake v t
  have hM := fun v => lmay v c hc
  rw [hch] at hM
  have hS := fun v t => ystep v c hc { p with Mode := 0 } (pn_wf0 hp) t
  rw [step_run p hch, hN] at hS
  have hD := fun v t => ydrive v c hc t 0 (by decide)
  have zz := zeroVC
  have zd := zeroVD
  have tb' : Hid (Tabs w) := tb
  have hF : Hid (Fm w [(w.heap.size, cpC c, 26), (w.heap.size + 1, pnC p, 30)] ((w.alloc (.cells (cpC c) 26)).alloc (.cells (pnC p) 30))) := Fm.two w c p
  obtain ⟨o, ho⟩ : ∃ o : Int, (c.Op : Int) = o := ⟨_, rfl⟩
  have hph : (c.Ph : Int) = 5 := by omega
  have n1 : (N.Ph : Int) = 7 := by omega
  replace ho : Hid _ := ho
  replace hph : Hid _ := hph
  replace n1 : Hid _ := n1
  replace l1 : Hid _ := l1
  replace l2 : Hid _ := l2
  clear hc hp tb hch hN h hPh h0
  go_enter Tryd.func5, Tryd.ntmps5
  go_wp2_with (first
    | (refine gen_world ((w.alloc (.cells (cpC c) 26)).alloc (.cells (pnC p) 30)) (Fm w [(w.heap.size, cpC c, 26), (w.heap.size + 1, pnC p, 30)]) hF.out ?_; intro y K0)
    | (go_at_call 12; refine (hA _ (tb'.out.below K0.out.low)).mono ?_; rintro e v1 ⟨rfl, hb1⟩; have K1 : Hid _ := K0.out.below hb1)
    | (go_at_call 8; refine (hM _).mono ?_; rintro e v2 ⟨rfl, hb2⟩; have K2 : Hid _ := K1.out.below hb2; have dM := BoxP.fMode (K2.out.get 1 _ _ _ rfl); have fM := frozen_heap (K2.out.get 1 _ _ _ rfl) 0; have K3 : Hid (Fm w [(w.heap.size, cpC c, 26), (w.heap.size + 1, pnC { p with Mode := 0 }, 30)] (v2.setCell ⟨w.heap.size + 1, 0, none⟩ (.int .u8 0))) := K2.out.setCell 1 _ _ _ _ rfl 0 _ rfl)
    | (refine gen_world (v2.setCell ⟨w.heap.size + 1, 0, none⟩ (.int .u8 0)) (Fm w [(w.heap.size, cpC c, 26), (w.heap.size + 1, pnC { p with Mode := 0 }, 30)]) K3.out ?_; intro y3 K4)
    | (go_at_call 10; refine (hS _ (tb'.out.below K4.out.low)).mono ?_; rintro e v4 ⟨rfl, hb4⟩; have K5 : Hid _ := K4.out.below hb4)
    | (refine gen_world (v4.alloc (.cells (cpC zeroC) 26)) (Fm w [(w.heap.size, cpC c, 26), (w.heap.size + 1, pnC { p with Mode := 0 }, 30), (v4.heap.size, cpC zeroC, 26)]) (K5.out.new _ _) ?_; intro y5 K55)
    | (refine at_storeC v4.heap.size zeroC N (K55.out.get 2 _ _ _ rfl) _ _ rfl rfl rfl rfl ?_; intro y6 hw6; have K6 : Hid (Fm w [(w.heap.size, cpC c, 26), (w.heap.size + 1, pnC { p with Mode := 0 }, 30), (v4.heap.size, cpC N, 26)] y6) := K55.out.put 2 _ _ _ _ rfl hw6.out; have d25 := BoxC.fPh (K6.out.get 0 _ _ _ rfl); have d23 := BoxC.fOp (K6.out.get 0 _ _ _ rfl); rw [ho.out] at d23; have n25 := BoxC.fPh (K6.out.get 2 _ _ _ rfl); have n21 := BoxC.fIE (K6.out.get 2 _ _ _ rfl); have n23 := BoxC.fOp (K6.out.get 2 _ _ _ rfl); have p1 : y6.cell? ⟨w.heap.size + 1, 1, none⟩ = some (.int .u8 p.Data) := BoxP.fData (p := { p with Mode := 0 }) (K6.out.get 1 _ _ _ rfl); have p6 : y6.cell? ⟨w.heap.size + 1, 6, none⟩ = some (.bool p.DI) := BoxP.fDI (p := { p with Mode := 0 }) (K6.out.get 1 _ _ _ rfl); have p7 : y6.cell? ⟨w.heap.size + 1, 7, none⟩ = some (.bool p.DO) := BoxP.fDO (p := { p with Mode := 0 }) (K6.out.get 1 _ _ _ rfl); have p8 : y6.cell? ⟨w.heap.size + 1, 8, none⟩ = some (.bool p.Int_) := BoxP.fInt (p := { p with Mode := 0 }) (K6.out.get 1 _ _ _ rfl); rw [hph.out] at d25; rw [n1.out] at n25; rw [l1.out] at p6; rw [l2.out] at p7; refine stopAt ?_)
    | (refine at_loadC w.heap.size c (K4.out.get 0 _ _ _ rfl) _ rfl rfl rfl ?_)
    | (refine at_loadP (w.heap.size + 1) _ (K4.out.get 1 _ _ _ rfl) _ rfl rfl rfl ?_)
    | (refine at_loadC w.heap.size c (K1.out.get 0 _ _ _ rfl) _ rfl rfl rfl ?_))
  refine Stop.go ?_
  go_wp2
  all_goals go_ret
  all_goals exact ⟨by first | rfl | simp, K6.out.low⟩

theorem asked_5in (w : World) (c : Cp) (hc : c.wf) (p : Pn) (hp : p.wf) (tb : Tabs w) (hch : checkB c = true) (N : Cp) (hN : goOnM c { p with Mode := 0 } = N) (h : c.Ph = 5) (h0 : c.Op = 0) (l1 : p.DI = false) (l2 : p.DO = false) (l3 : p.Int_ = true) (l4 : N.IE = true) (hPh : N.Ph = 1) : Calls Tryd.prog 5 #[.agg (cpC c), .agg (pnC p)] w fun e w' => e = .returned (.bool true) ∧ Below w.heap.size w w' := by
  have hA := fun v t => lawake v t
  have hM := fun v => lmay v c hc
  rw [hch] at hM
  have hS := fun v t => ystep v c hc { p with Mode := 0 } (pn_wf0 hp) t
  rw [step_run p hch, hN] at hS
  have hD := fun v t => ydrive v c hc t 0 (by decide)
  have zz := zeroVC
  have zd := zeroVD
  have tb' : Hid (Tabs w) := tb
  have hF : Hid (Fm w [(w.heap.size, cpC c, 26), (w.heap.size + 1, pnC p, 30)] ((w.alloc (.cells (cpC c) 26)).alloc (.cells (pnC p) 30))) := Fm.two w c p
  obtain ⟨o, ho⟩ : ∃ o : Int, (c.Op : Int) = o := ⟨_, rfl⟩
  have hph : (c.Ph : Int) = 5 := by omega
  have n1 : (N.Ph : Int) = 1 := by omega
  replace ho : Hid _ := ho
  replace hph : Hid _ := hph
  replace n1 : Hid _ := n1
  replace l1 : Hid _ := l1
  replace l2 : Hid _ := l2
  replace l3 : Hid _ := l3
  replace l4 : Hid _ := l4
  clear hc hp tb hch hN h hPh h0
  go_enter Tryd.func5, Tryd.ntmps5
  go_wp2_with (first
    | (refine gen_world ((w.alloc (.cells (cpC c) 26)).alloc (.cells (pnC p) 30)) (Fm w [(w.heap.size, cpC c, 26), (w.heap.size + 1, pnC p, 30)]) hF.out ?_; intro y K0)
    | (go_at_call 12; refine (hA _ (tb'.out.below K0.out.low)).mono ?_; rintro e v1 ⟨rfl, hb1⟩; have K1 : Hid _ := K0.out.below hb1)
    | (go_at_call 8; refine (hM _).mono ?_; rintro e v2 ⟨rfl, hb2⟩; have K2 : Hid _ := K1.out.below hb2; have dM := BoxP.fMode (K2.out.get 1 _ _ _ rfl); have fM := frozen_heap (K2.out.get 1 _ _ _ rfl) 0; have K3 : Hid (Fm w [(w.heap.size, cpC c, 26), (w.heap.size + 1, pnC { p with Mode := 0 }, 30)] (v2.setCell ⟨w.heap.size + 1, 0, none⟩ (.int .u8 0))) := K2.out.setCell 1 _ _ _ _ rfl 0 _ rfl)
    | (refine gen_world (v2.setCell ⟨w.heap.size + 1, 0, none⟩ (.int .u8 0)) (Fm w [(w.heap.size, cpC c, 26), (w.heap.size + 1, pnC { p with Mode := 0 }, 30)]) K3.out ?_; intro y3 K4)
    | (go_at_call 10; refine (hS _ (tb'.out.below K4.out.low)).mono ?_; rintro e v4 ⟨rfl, hb4⟩; have K5 : Hid _ := K4.out.below hb4)
    | (refine gen_world (v4.alloc (.cells (cpC zeroC) 26)) (Fm w [(w.heap.size, cpC c, 26), (w.heap.size + 1, pnC { p with Mode := 0 }, 30), (v4.heap.size, cpC zeroC, 26)]) (K5.out.new _ _) ?_; intro y5 K55)
    | (refine at_storeC v4.heap.size zeroC N (K55.out.get 2 _ _ _ rfl) _ _ rfl rfl rfl rfl ?_; intro y6 hw6; have K6 : Hid (Fm w [(w.heap.size, cpC c, 26), (w.heap.size + 1, pnC { p with Mode := 0 }, 30), (v4.heap.size, cpC N, 26)] y6) := K55.out.put 2 _ _ _ _ rfl hw6.out; have d25 := BoxC.fPh (K6.out.get 0 _ _ _ rfl); have d23 := BoxC.fOp (K6.out.get 0 _ _ _ rfl); rw [ho.out] at d23; have n25 := BoxC.fPh (K6.out.get 2 _ _ _ rfl); have n21 := BoxC.fIE (K6.out.get 2 _ _ _ rfl); have n23 := BoxC.fOp (K6.out.get 2 _ _ _ rfl); have p1 : y6.cell? ⟨w.heap.size + 1, 1, none⟩ = some (.int .u8 p.Data) := BoxP.fData (p := { p with Mode := 0 }) (K6.out.get 1 _ _ _ rfl); have p6 : y6.cell? ⟨w.heap.size + 1, 6, none⟩ = some (.bool p.DI) := BoxP.fDI (p := { p with Mode := 0 }) (K6.out.get 1 _ _ _ rfl); have p7 : y6.cell? ⟨w.heap.size + 1, 7, none⟩ = some (.bool p.DO) := BoxP.fDO (p := { p with Mode := 0 }) (K6.out.get 1 _ _ _ rfl); have p8 : y6.cell? ⟨w.heap.size + 1, 8, none⟩ = some (.bool p.Int_) := BoxP.fInt (p := { p with Mode := 0 }) (K6.out.get 1 _ _ _ rfl); rw [hph.out] at d25; rw [n1.out] at n25; rw [l1.out] at p6; rw [l2.out] at p7; rw [l3.out] at p8; rw [l4.out] at n21; refine stopAt ?_)
    | (refine at_loadC w.heap.size c (K4.out.get 0 _ _ _ rfl) _ rfl rfl rfl ?_)
    | (refine at_loadP (w.heap.size + 1) _ (K4.out.get 1 _ _ _ rfl) _ rfl rfl rfl ?_)
    | (refine at_loadC w.heap.size c (K1.out.get 0 _ _ _ rfl) _ rfl rfl rfl ?_))
  refine Stop.go ?_
  go_wp2
  all_goals go_ret
  all_goals exact ⟨by first | rfl | simp, K6.out.low⟩

theorem asked_5ie (w : World) (c : Cp) (hc : c.wf) (p : Pn) (hp : p.wf) (tb : Tabs w) (hch : checkB c = true) (N : Cp) (hN : goOnM c { p with Mode := 0 } = N) (h : c.Ph = 5) (h0 : c.Op = 0) (l1 : p.DI = false) (l2 : p.DO = false) (l3 : p.Int_ = true) (l4 : N.IE = false) (hPh : N.Ph = 1) : Calls Tryd.prog 5 #[.agg (cpC c), .agg (pnC p)] w fun e w' => e = .returned (.bool true) ∧ Below w.heap.size w w' := by
  have hA := fun v t => lawake v t
  have hM := fun v => lmay v c hc
  rw [hch] at hM
  have hS := fun v t => ystep v c hc { p with Mode := 0 } (pn_wf0 hp) t
  rw [step_run p hch, hN] at hS
  have hD := fun v t => ydrive v c hc t 0 (by decide)
  have zz := zeroVC
  have zd := zeroVD
  have tb' : Hid (Tabs w) := tb
  have hF : Hid (Fm w [(w.heap.size, cpC c, 26), (w.heap.size + 1, pnC p, 30)] ((w.alloc (.cells (cpC c) 26)).alloc (.cells (pnC p) 30))) := Fm.two w c p
  obtain ⟨o, ho⟩ : ∃ o : Int, (c.Op : Int) = o := ⟨_, rfl⟩
  have hph : (c.Ph : Int) = 5 := by omega
  have n1 : (N.Ph : Int) = 1 := by omega
  replace ho : Hid _ := ho
  replace hph : Hid _ := hph
  replace n1 : Hid _ := n1
  replace l1 : Hid _ := l1
  replace l2 : Hid _ := l2
  replace l3 : Hid _ := l3
  replace l4 : Hid _ := l4
  clear hc hp tb hch hN h hPh h0
  go_enter Tryd.func5, Tryd.ntmps5
  go_wp2_with (first
    | (refine gen_world ((w.alloc (.cells (cpC c) 26)).alloc (.cells (pnC p) 30)) (Fm w [(w.heap.size, cpC c, 26), (w.heap.size + 1, pnC p, 30)]) hF.out ?_; intro y K0)
    | (go_at_call 12; refine (hA _ (tb'.out.below K0.out.low)).mono ?_; rintro e v1 ⟨rfl, hb1⟩; have K1 : Hid _ := K0.out.below hb1)
    | (go_at_call 8; refine (hM _).mono ?_; rintro e v2 ⟨rfl, hb2⟩; have K2 : Hid _ := K1.out.below hb2; have dM := BoxP.fMode (K2.out.get 1 _ _ _ rfl); have fM := frozen_heap (K2.out.get 1 _ _ _ rfl) 0; have K3 : Hid (Fm w [(w.heap.size, cpC c, 26), (w.heap.size + 1, pnC { p with Mode := 0 }, 30)] (v2.setCell ⟨w.heap.size + 1, 0, none⟩ (.int .u8 0))) := K2.out.setCell 1 _ _ _ _ rfl 0 _ rfl)
    | (refine gen_world (v2.setCell ⟨w.heap.size + 1, 0, none⟩ (.int .u8 0)) (Fm w [(w.heap.size, cpC c, 26), (w.heap.size + 1, pnC { p with Mode := 0 }, 30)]) K3.out ?_; intro y3 K4)
    | (go_at_call 10; refine (hS _ (tb'.out.below K4.out.low)).mono ?_; rintro e v4 ⟨rfl, hb4⟩; have K5 : Hid _ := K4.out.below hb4)
    | (refine gen_world (v4.alloc (.cells (cpC zeroC) 26)) (Fm w [(w.heap.size, cpC c, 26), (w.heap.size + 1, pnC { p with Mode := 0 }, 30), (v4.heap.size, cpC zeroC, 26)]) (K5.out.new _ _) ?_; intro y5 K55)
    | (refine at_storeC v4.heap.size zeroC N (K55.out.get 2 _ _ _ rfl) _ _ rfl rfl rfl rfl ?_; intro y6 hw6; have K6 : Hid (Fm w [(w.heap.size, cpC c, 26), (w.heap.size + 1, pnC { p with Mode := 0 }, 30), (v4.heap.size, cpC N, 26)] y6) := K55.out.put 2 _ _ _ _ rfl hw6.out; have d25 := BoxC.fPh (K6.out.get 0 _ _ _ rfl); have d23 := BoxC.fOp (K6.out.get 0 _ _ _ rfl); rw [ho.out] at d23; have n25 := BoxC.fPh (K6.out.get 2 _ _ _ rfl); have n21 := BoxC.fIE (K6.out.get 2 _ _ _ rfl); have n23 := BoxC.fOp (K6.out.get 2 _ _ _ rfl); have p1 : y6.cell? ⟨w.heap.size + 1, 1, none⟩ = some (.int .u8 p.Data) := BoxP.fData (p := { p with Mode := 0 }) (K6.out.get 1 _ _ _ rfl); have p6 : y6.cell? ⟨w.heap.size + 1, 6, none⟩ = some (.bool p.DI) := BoxP.fDI (p := { p with Mode := 0 }) (K6.out.get 1 _ _ _ rfl); have p7 : y6.cell? ⟨w.heap.size + 1, 7, none⟩ = some (.bool p.DO) := BoxP.fDO (p := { p with Mode := 0 }) (K6.out.get 1 _ _ _ rfl); have p8 : y6.cell? ⟨w.heap.size + 1, 8, none⟩ = some (.bool p.Int_) := BoxP.fInt (p := { p with Mode := 0 }) (K6.out.get 1 _ _ _ rfl); rw [hph.out] at d25; rw [n1.out] at n25; rw [l1.out] at p6; rw [l2.out] at p7; rw [l3.out] at p8; rw [l4.out] at n21; refine stopAt ?_)
    | (refine at_loadC w.heap.size c (K4.out.get 0 _ _ _ rfl) _ rfl rfl rfl ?_)
    | (refine at_loadP (w.heap.size + 1) _ (K4.out.get 1 _ _ _ rfl) _ rfl rfl rfl ?_)
    | (refine at_loadC w.heap.size c (K1.out.get 0 _ _ _ rfl) _ rfl rfl rfl ?_))
  refine Stop.go ?_
  go_wp2
  all_goals go_ret
  all_goals exact ⟨by first | rfl | simp, K6.out.low⟩

theorem asked_5no (w : World) (c : Cp) (hc : c.wf) (p : Pn) (hp : p.wf) (tb : Tabs w) (hch : checkB c = true) (N : Cp) (hN : goOnM c { p with Mode := 0 } = N) (h : c.Ph = 5) (h0 : c.Op = 0) (l1 : p.DI = false) (l2 : p.DO = false) (l3 : p.Int_ = false) (hPh : N.Ph = 1) : Calls Tryd.prog 5 #[.agg (cpC c), .agg (pnC p)] w fun e w' => e = .returned (.bool true) ∧ Below w.heap.size w w' := by
  have hA := fun v t => lawake v t
  have hM := fun v => lmay v c hc
  rw [hch] at hM
  have hS := fun v t => ystep v c hc { p with Mode := 0 } (pn_wf0 hp) t
  rw [step_run p hch, hN] at hS
  have hD := fun v t => ydrive v c hc t 0 (by decide)
  have zz := zeroVC
  have zd := zeroVD
  have tb' : Hid (Tabs w) := tb
  have hF : Hid (Fm w [(w.heap.size, cpC c, 26), (w.heap.size + 1, pnC p, 30)] ((w.alloc (.cells (cpC c) 26)).alloc (.cells (pnC p) 30))) := Fm.two w c p
  obtain ⟨o, ho⟩ : ∃ o : Int, (c.Op : Int) = o := ⟨_, rfl⟩
  have hph : (c.Ph : Int) = 5 := by omega
  have n1 : (N.Ph : Int) = 1 := by omega
  replace ho : Hid _ := ho
  replace hph : Hid _ := hph
  replace n1 : Hid _ := n1
  replace l1 : Hid _ := l1
  replace l2 : Hid _ := l2
  replace l3 : Hid _ := l3
  clear hc hp tb hch hN h hPh h0
  go_enter Tryd.func5, Tryd.ntmps5
  go_wp2_with (first
    | (refine gen_world ((w.alloc (.cells (cpC c) 26)).alloc (.cells (pnC p) 30)) (Fm w [(w.heap.size, cpC c, 26), (w.heap.size + 1, pnC p, 30)]) hF.out ?_; intro y K0)
    | (go_at_call 12; refine (hA _ (tb'.out.below K0.out.low)).mono ?_; rintro e v1 ⟨rfl, hb1⟩; have K1 : Hid _ := K0.out.below hb1)
    | (go_at_call 8; refine (hM _).mono ?_; rintro e v2 ⟨rfl, hb2⟩; have K2 : Hid _ := K1.out.below hb2; have dM := BoxP.fMode (K2.out.get 1 _ _ _ rfl); have fM := frozen_heap (K2.out.get 1 _ _ _ rfl) 0; have K3 : Hid (Fm w [(w.heap.size, cpC c, 26), (w.heap.size + 1, pnC { p with Mode := 0 }, 30)] (v2.setCell ⟨w.heap.size + 1, 0, none⟩ (.int .u8 0))) := K2.out.setCell 1 _ _ _ _ rfl 0 _ rfl)
    | (refine gen_world (v2.setCell ⟨w.heap.size + 1, 0, none⟩ (.int .u8 0)) (Fm w [(w.heap.size, cpC c, 26), (w.heap.size + 1, pnC { p with Mode := 0 }, 30)]) K3.out ?_; intro y3 K4)
    | (go_at_call 10; refine (hS _ (tb'.out.below K4.out.low)).mono ?_; rintro e v4 ⟨rfl, hb4⟩; have K5 : Hid _ := K4.out.below hb4)
    | (refine gen_world (v4.alloc (.cells (cpC zeroC) 26)) (Fm w [(w.heap.size, cpC c, 26), (w.heap.size + 1, pnC { p with Mode := 0 }, 30), (v4.heap.size, cpC zeroC, 26)]) (K5.out.new _ _) ?_; intro y5 K55)
    | (refine at_storeC v4.heap.size zeroC N (K55.out.get 2 _ _ _ rfl) _ _ rfl rfl rfl rfl ?_; intro y6 hw6; have K6 : Hid (Fm w [(w.heap.size, cpC c, 26), (w.heap.size + 1, pnC { p with Mode := 0 }, 30), (v4.heap.size, cpC N, 26)] y6) := K55.out.put 2 _ _ _ _ rfl hw6.out; have d25 := BoxC.fPh (K6.out.get 0 _ _ _ rfl); have d23 := BoxC.fOp (K6.out.get 0 _ _ _ rfl); rw [ho.out] at d23; have n25 := BoxC.fPh (K6.out.get 2 _ _ _ rfl); have n21 := BoxC.fIE (K6.out.get 2 _ _ _ rfl); have n23 := BoxC.fOp (K6.out.get 2 _ _ _ rfl); have p1 : y6.cell? ⟨w.heap.size + 1, 1, none⟩ = some (.int .u8 p.Data) := BoxP.fData (p := { p with Mode := 0 }) (K6.out.get 1 _ _ _ rfl); have p6 : y6.cell? ⟨w.heap.size + 1, 6, none⟩ = some (.bool p.DI) := BoxP.fDI (p := { p with Mode := 0 }) (K6.out.get 1 _ _ _ rfl); have p7 : y6.cell? ⟨w.heap.size + 1, 7, none⟩ = some (.bool p.DO) := BoxP.fDO (p := { p with Mode := 0 }) (K6.out.get 1 _ _ _ rfl); have p8 : y6.cell? ⟨w.heap.size + 1, 8, none⟩ = some (.bool p.Int_) := BoxP.fInt (p := { p with Mode := 0 }) (K6.out.get 1 _ _ _ rfl); rw [hph.out] at d25; rw [n1.out] at n25; rw [l1.out] at p6; rw [l2.out] at p7; rw [l3.out] at p8; refine stopAt ?_)
    | (refine at_loadC w.heap.size c (K4.out.get 0 _ _ _ rfl) _ rfl rfl rfl ?_)
    | (refine at_loadP (w.heap.size + 1) _ (K4.out.get 1 _ _ _ rfl) _ rfl rfl rfl ?_)
    | (refine at_loadC w.heap.size c (K1.out.get 0 _ _ _ rfl) _ rfl rfl rfl ?_))
  refine Stop.go ?_
  go_wp2
  all_goals go_ret
  all_goals exact ⟨by first | rfl | simp, K6.out.low⟩

end Go.Proofs.YtbeeefekndcgnaaDoor
