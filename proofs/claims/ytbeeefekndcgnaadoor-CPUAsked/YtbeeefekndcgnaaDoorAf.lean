/- CPUAsked: S3 -/
import Derived.Test.YtbeeefekndcgnaaDoorAa
namespace Go.Proofs.YtbeeefekndcgnaaDoor
open Go Go.RowKit
set_option linter.unusedVariables false
set_option maxHeartbeats 1000000
set_option maxRecDepth 20000

theorem quiet_neC {C : World → Prop} {o : Oper} {a : Act} (A B : Cp) (h : cpC A = cpC B) (x y : Operand) (t : TypeId) (ho : o.op = .binOp .neq 26 x y t) (hx : a.eval x = .agg (cpC A)) (hy : a.eval y = .agg (cpC B)) : ∀ w, C w → o.quietAt Tryd.prog a C w (.bool false) := fun w hw => by
  unfold Oper.quietAt execOp
  simp only [ho, hx, hy, h, Sem.run_bind, run_eqGuard_agg w .neq 26 x y (cpC B) (cpC B) guardC, run_neq_struct w 26 (cpC B) (cpC B), eqC, Result.andThen_ok, Sem.run_pure]
  exact ⟨rfl, rfl⟩
theorem quiet_neD {C : World → Prop} {o : Oper} {a : Act} (A B : Dv) (h : dvC A = dvC B) (x y : Operand) (t : TypeId) (ho : o.op = .binOp .neq 37 x y t) (hx : a.eval x = .agg (dvC A)) (hy : a.eval y = .agg (dvC B)) : ∀ w, C w → o.quietAt Tryd.prog a C w (.bool false) := fun w hw => by
  unfold Oper.quietAt execOp
  simp only [ho, hx, hy, h, Sem.run_bind, run_eqGuard_agg w .neq 37 x y (dvC B) (dvC B) guardD, run_neq_struct w 37 (dvC B) (dvC B), eqD, Result.andThen_ok, Sem.run_pure]
  exact ⟨rfl, rfl⟩
theorem quiet_loadD {C : World → Prop} {o : Oper} {a : Act} (b : Nat) (d : Dv) (h : ∀ w, C w → BoxD w b d) (x : Operand) (ho : o.op = .load 37 x) (hx : a.eval x = .pointer (some ⟨b, 0, none⟩)) : ∀ w, C w → o.quietAt Tryd.prog a C w (.agg (dvC d)) := fun w hw => by
  have hr := run_loadVar_row (P := Tryd.prog) w b 37 37 (dvC d) (0, 0) _ (h w hw) Tryd.underlying37 rfl infoD
  unfold Oper.quietAt execOp
  simp only [ho, hx, Instr.loadAt, Instr.sureAddr, Sem.run_bind, Sem.run_pure, Result.andThen_ok, hr]
  exact ⟨rfl, rfl⟩
theorem asked_8di (w : World) (c : Cp) (hc : c.wf) (p : Pn) (hp : p.wf) (tb : Tabs w) (hch : checkB c = true) (N : Cp) (hN : goOnM c { p with Mode := 0 } = N) (h : c.Ph = 8) (l1 : p.DI = true) (hPh : N.Ph = 6) : Calls Tryd.prog 5 #[.agg (cpC c), .agg (pnC p)] w fun e w' => e = .returned (.bool true) ∧ Below w.heap.size w w' := by
  have hA := fun v t => lawake v t
  have hM := fun v => lmay v c hc
  rw [hch] at hM
  have hS := fun v t => ystep v c hc { p with Mode := 0 } (pn_wf0 hp) t
  rw [step_run p hch, hN] at hS
  have hD := fun v t => ydrive v c hc t 0 (by decide)
  have zz := zeroVC
  have zd := zeroVD
  have tb' : Hid (Tabs w) := tb
  have hF : Hid (Fm w [(w.heap.size, cpC c, 26), (w.heap.size + 1, pnC p, 30)] ((w.alloc (.cells (cpC c) 26)).alloc (.cells (pnC p) 30))) := Fm.two w c p
  obtain ⟨o, ho⟩ : ∃ o : Int, (c.Op : Int) = o := ⟨_, rfl⟩
  have hph : (c.Ph : Int) = 8 := by omega
  have n1 : (N.Ph : Int) = 6 := by omega
  have hm := (checkB_iff c).1 hch
  have hP : c.P < 16 := by have := hm.1; omega
  have hX : c.X < 16 := by have := hm.2.1; omega
  obtain ⟨q, hq⟩ : ∃ q, c.Op % 16 = q := ⟨_, rfl⟩
  have hq16 : q < 16 := by omega
  have hl : bits .and .u8 o 15 = (q : Int) := by rw [← ho, low4 c.Op hc.Op]; omega
  have hDe : driveM c 0 = (⟨3, c.R q, false, false, false, 0, 0, true⟩ : Dv) := by unfold driveM runM; rw [if_pos hch]; simp only [h]; rw [hq]; rfl
  rw [hDe] at hD
  obtain ⟨V, hV⟩ : ∃ V, 16 * (c.X : Int) + (c.P : Int) = V := ⟨_, rfl⟩
  have v1' : IntKind.u8.wrap (16 * (c.X : Int)) = 16 * (c.X : Int) := by rw [IntKind.wrap_u8]; omega
  have v2' : IntKind.u8.wrap (16 * (c.X : Int) + (c.P : Int)) = V := by rw [IntKind.wrap_u8]; omega
  have hNe : Hid (cpC N = cpC { c with T := V, P := 1, X := 2, IE := false, Ph := N.Ph }) := by rw [show (Hid (cpC N = cpC { c with T := V, P := 1, X := 2, IE := false, Ph := N.Ph })) = (cpC N = cpC { c with T := V, P := 1, X := 2, IE := false, Ph := N.Ph }) from rfl, ← hN, ← hV]; unfold goOnM; simp only [h]
  obtain ⟨D, hDD⟩ : ∃ D : Dv, (⟨3, c.R q, false, false, false, 0, 0, true⟩ : Dv) = D := ⟨_, rfl⟩
  rw [hDD] at hD
  have hbD : Hid (Tryd.prog.built 37 [(0, .int .u8 3), (1, .int .u16 (c.R q)), (7, .bool true)] = some (dvC D)) := by rw [← hDD]; exact (by kernel_rfl : Tryd.prog.built 37 [(0, .int .u8 3), (1, .int .u16 (c.R q)), (7, .bool true)] = some (dvC (⟨3, c.R q, false, false, false, 0, 0, true⟩ : Dv)))
  have ix := fun v => idx (g := w.heap.size) (off := 0) (N := 16) Tryd.underlying23 infoR .u8 q v hq16
  simp only [Nat.zero_add, Nat.mul_one] at ix
  have hR' : Hid (∀ b x, BoxC x b c → x.cell? ⟨b, q, none⟩ = some (.int .u16 (c.R q))) := fun b x h => h.r q hq16
  replace ho : Hid _ := ho
  replace hph : Hid _ := hph
  replace n1 : Hid _ := n1
  replace l1 : Hid _ := l1
  clear hc hp tb hch hN h hPh hDe hDD hm hP hX hq hq16 hV
  go_enter Tryd.func5, Tryd.ntmps5
  go_wp2_with (first
    | (refine gen_world ((w.alloc (.cells (cpC c) 26)).alloc (.cells (pnC p) 30)) (Fm w [(w.heap.size, cpC c, 26), (w.heap.size + 1, pnC p, 30)]) hF.out ?_; intro y K0)
    | (go_at_call 12; refine (hA _ (tb'.out.below K0.out.low)).mono ?_; rintro e v1 ⟨rfl, hb1⟩; have K1 : Hid _ := K0.out.below hb1)
    | (go_at_call 8; refine (hM _).mono ?_; rintro e v2 ⟨rfl, hb2⟩; have K2 : Hid _ := K1.out.below hb2; have dM := BoxP.fMode (K2.out.get 1 _ _ _ rfl); have fM := frozen_heap (K2.out.get 1 _ _ _ rfl) 0; have K3 : Hid (Fm w [(w.heap.size, cpC c, 26), (w.heap.size + 1, pnC { p with Mode := 0 }, 30)] (v2.setCell ⟨w.heap.size + 1, 0, none⟩ (.int .u8 0))) := K2.out.setCell 1 _ _ _ _ rfl 0 _ rfl)
    | (refine gen_world (v2.setCell ⟨w.heap.size + 1, 0, none⟩ (.int .u8 0)) (Fm w [(w.heap.size, cpC c, 26), (w.heap.size + 1, pnC { p with Mode := 0 }, 30)]) K3.out ?_; intro y3 K4)
    | (go_at_call 10; refine (hS _ (tb'.out.below K4.out.low)).mono ?_; rintro e v4 ⟨rfl, hb4⟩; have K5 : Hid _ := K4.out.below hb4)
    | (refine gen_world (v4.alloc (.cells (cpC zeroC) 26)) (Fm w [(w.heap.size, cpC c, 26), (w.heap.size + 1, pnC { p with Mode := 0 }, 30), (v4.heap.size, cpC zeroC, 26)]) (K5.out.new _ _) ?_; intro y5 K55)
    | (refine at_storeC v4.heap.size zeroC N (K55.out.get 2 _ _ _ rfl) _ _ rfl rfl rfl rfl ?_; intro y6 hw6; have K6 : Hid (Fm w [(w.heap.size, cpC c, 26), (w.heap.size + 1, pnC { p with Mode := 0 }, 30), (v4.heap.size, cpC N, 26)] y6) := K55.out.put 2 _ _ _ _ rfl hw6.out; have d25 := BoxC.fPh (K6.out.get 0 _ _ _ rfl); have d23 := BoxC.fOp (K6.out.get 0 _ _ _ rfl); rw [ho.out] at d23; have n25 := BoxC.fPh (K6.out.get 2 _ _ _ rfl); have n21 := BoxC.fIE (K6.out.get 2 _ _ _ rfl); have n23 := BoxC.fOp (K6.out.get 2 _ _ _ rfl); have p1 : y6.cell? ⟨w.heap.size + 1, 1, none⟩ = some (.int .u8 p.Data) := BoxP.fData (p := { p with Mode := 0 }) (K6.out.get 1 _ _ _ rfl); have p6 : y6.cell? ⟨w.heap.size + 1, 6, none⟩ = some (.bool p.DI) := BoxP.fDI (p := { p with Mode := 0 }) (K6.out.get 1 _ _ _ rfl); have p7 : y6.cell? ⟨w.heap.size + 1, 7, none⟩ = some (.bool p.DO) := BoxP.fDO (p := { p with Mode := 0 }) (K6.out.get 1 _ _ _ rfl); have p8 : y6.cell? ⟨w.heap.size + 1, 8, none⟩ = some (.bool p.Int_) := BoxP.fInt (p := { p with Mode := 0 }) (K6.out.get 1 _ _ _ rfl); rw [hph.out] at d25)
    | (go_at_call 11; refine (hD _ (tb'.out.below K6.out.low)).mono ?_; rintro e v7 ⟨rfl, hb7⟩; have K7 : Hid _ := K6.out.below hb7)
    | (refine gen_world (v7.alloc (.cells (dvC zeroD) 37)) (Fm w [(w.heap.size, cpC c, 26), (w.heap.size + 1, pnC { p with Mode := 0 }, 30), (v4.heap.size, cpC N, 26), (v7.heap.size, dvC zeroD, 37)]) (K7.out.new _ _) ?_; intro y8 K8)
    | (refine at_storeD v7.heap.size zeroD D (K8.out.get 3 _ _ _ rfl) _ _ rfl rfl rfl rfl ?_; intro y9 hw9; have K9 : Hid (Fm w [(w.heap.size, cpC c, 26), (w.heap.size + 1, pnC { p with Mode := 0 }, 30), (v4.heap.size, cpC N, 26), (v7.heap.size, dvC D, 37)] y9) := K8.out.put 3 _ _ _ _ rfl hw9.out)
    | (refine gen_world (y9.alloc (.cells (cpC zeroC) 26)) (Fm w [(w.heap.size, cpC c, 26), (w.heap.size + 1, pnC { p with Mode := 0 }, 30), (v4.heap.size, cpC N, 26), (v7.heap.size, dvC D, 37), (y9.heap.size, cpC zeroC, 26)]) (K9.out.new _ _) ?_; intro y10 K10)
    | (refine at_storeC y9.heap.size zeroC c (K10.out.get 4 _ _ _ rfl) _ _ rfl rfl rfl rfl ?_; intro y11 hw11; have K11 : Hid (Fm w [(w.heap.size, cpC c, 26), (w.heap.size + 1, pnC { p with Mode := 0 }, 30), (v4.heap.size, cpC N, 26), (v7.heap.size, dvC D, 37), (y9.heap.size, cpC c, 26)] y11) := K10.out.put 4 _ _ _ _ rfl hw11.out; have cX := BoxC.fX (K11.out.get 0 _ _ _ rfl); have cP := BoxC.fP (K11.out.get 0 _ _ _ rfl); have x20K11 := BoxC.fT (K11.out.get 4 _ _ _ rfl); have g20K11 := frozen_heap (K11.out.get 4 _ _ _ rfl) 20; have S0 : Hid (Fm w [(w.heap.size, cpC c, 26), (w.heap.size + 1, pnC { p with Mode := 0 }, 30), (v4.heap.size, cpC N, 26), (v7.heap.size, dvC D, 37), (y9.heap.size, cpC { c with T := V }, 26)] (y11.setCell ⟨y9.heap.size, 20, none⟩ (.int .u8 V))) := K11.out.setCell 4 _ _ _ _ rfl 20 _ (cpC_setT c V))
    | (refine gen_world (y11.setCell ⟨y9.heap.size, 20, none⟩ (.int .u8 V)) (Fm w [(w.heap.size, cpC c, 26), (w.heap.size + 1, pnC { p with Mode := 0 }, 30), (v4.heap.size, cpC N, 26), (v7.heap.size, dvC D, 37), (y9.heap.size, cpC { c with T := V }, 26)]) S0.out ?_; intro z0 T0; have x18T0 := BoxC.fP (T0.out.get 4 _ _ _ rfl); have g18T0 := frozen_heap (T0.out.get 4 _ _ _ rfl) 18; have S1 : Hid (Fm w [(w.heap.size, cpC c, 26), (w.heap.size + 1, pnC { p with Mode := 0 }, 30), (v4.heap.size, cpC N, 26), (v7.heap.size, dvC D, 37), (y9.heap.size, cpC { c with T := V, P := 1 }, 26)] (z0.setCell ⟨y9.heap.size, 18, none⟩ (.int .u8 1))) := T0.out.setCell 4 _ _ _ _ rfl 18 _ (cpC_setP { c with T := V } 1))
    | (refine gen_world (z0.setCell ⟨y9.heap.size, 18, none⟩ (.int .u8 1)) (Fm w [(w.heap.size, cpC c, 26), (w.heap.size + 1, pnC { p with Mode := 0 }, 30), (v4.heap.size, cpC N, 26), (v7.heap.size, dvC D, 37), (y9.heap.size, cpC { c with T := V, P := 1 }, 26)]) S1.out ?_; intro z1 T1; have x19T1 := BoxC.fX (T1.out.get 4 _ _ _ rfl); have g19T1 := frozen_heap (T1.out.get 4 _ _ _ rfl) 19; have S2 : Hid (Fm w [(w.heap.size, cpC c, 26), (w.heap.size + 1, pnC { p with Mode := 0 }, 30), (v4.heap.size, cpC N, 26), (v7.heap.size, dvC D, 37), (y9.heap.size, cpC { c with T := V, P := 1, X := 2 }, 26)] (z1.setCell ⟨y9.heap.size, 19, none⟩ (.int .u8 2))) := T1.out.setCell 4 _ _ _ _ rfl 19 _ (cpC_setX { c with T := V, P := 1 } 2))
    | (refine gen_world (z1.setCell ⟨y9.heap.size, 19, none⟩ (.int .u8 2)) (Fm w [(w.heap.size, cpC c, 26), (w.heap.size + 1, pnC { p with Mode := 0 }, 30), (v4.heap.size, cpC N, 26), (v7.heap.size, dvC D, 37), (y9.heap.size, cpC { c with T := V, P := 1, X := 2 }, 26)]) S2.out ?_; intro z2 T2; have x21T2 := BoxC.fIE (T2.out.get 4 _ _ _ rfl); have g21T2 := frozen_heap (T2.out.get 4 _ _ _ rfl) 21; have S3 : Hid (Fm w [(w.heap.size, cpC c, 26), (w.heap.size + 1, pnC { p with Mode := 0 }, 30), (v4.heap.size, cpC N, 26), (v7.heap.size, dvC D, 37), (y9.heap.size, cpC { c with T := V, P := 1, X := 2, IE := false }, 26)] (z2.setCell ⟨y9.heap.size, 21, none⟩ (.bool false))) := T2.out.setCell 4 _ _ _ _ rfl 21 _ (cpC_setIE { c with T := V, P := 1, X := 2 } false))
    | (refine gen_world (z2.setCell ⟨y9.heap.size, 21, none⟩ (.bool false)) (Fm w [(w.heap.size, cpC c, 26), (w.heap.size + 1, pnC { p with Mode := 0 }, 30), (v4.heap.size, cpC N, 26), (v7.heap.size, dvC D, 37), (y9.heap.size, cpC { c with T := V, P := 1, X := 2, IE := false }, 26)]) S3.out ?_; intro z3 T3; have x25T3 := BoxC.fPh (T3.out.get 4 _ _ _ rfl); have g25T3 := frozen_heap (T3.out.get 4 _ _ _ rfl) 25; have m25 := BoxC.fPh (T3.out.get 2 _ _ _ rfl); have S4 : Hid (Fm w [(w.heap.size, cpC c, 26), (w.heap.size + 1, pnC { p with Mode := 0 }, 30), (v4.heap.size, cpC N, 26), (v7.heap.size, dvC D, 37), (y9.heap.size, cpC { c with T := V, P := 1, X := 2, IE := false, Ph := N.Ph }, 26)] (z3.setCell ⟨y9.heap.size, 25, none⟩ (.int .u8 (N.Ph : Int)))) := T3.out.setCell 4 _ _ _ _ rfl 25 _ (cpC_setPh { c with T := V, P := 1, X := 2, IE := false } N.Ph))
    | (refine at_loadC w.heap.size c (K9.out.get 0 _ _ _ rfl) _ rfl rfl rfl ?_)
    | (refine at_loadC w.heap.size c (K6.out.get 0 _ _ _ rfl) _ rfl rfl rfl ?_)
    | (refine at_loadC w.heap.size c (K4.out.get 0 _ _ _ rfl) _ rfl rfl rfl ?_)
    | (refine at_loadP (w.heap.size + 1) _ (K4.out.get 1 _ _ _ rfl) _ rfl rfl rfl ?_)
    | (refine at_loadC w.heap.size c (K1.out.get 0 _ _ _ rfl) _ rfl rfl rfl ?_))
  refine region_class_tail 13 (Fm w [(w.heap.size, cpC c, 26), (w.heap.size + 1, pnC { p with Mode := 0 }, 30), (v4.heap.size, cpC N, 26), (v7.heap.size, dvC D, 37), (y9.heap.size, cpC { c with T := V, P := 1, X := 2, IE := false, Ph := N.Ph }, 26)]) (by kernel_rfl) (by kernel_rfl) (S4.out.below (below_drew (Below.refl _ _))) ?_
  simp only [List.take_succ_cons, List.take_zero, List.drop_succ_cons, List.drop_zero]
  refine quiet_one (.agg (cpC N)) rfl (quiet_loadC v4.heap.size N (fun _ h => h.get 2 _ _ _ rfl) (.tmp 7) rfl (by go_simp)) ?_
  refine quiet_one (.agg (cpC { c with T := V, P := 1, X := 2, IE := false, Ph := N.Ph })) rfl (fun u hy => by
    generalize ha : Act.put _ _ _ = a
    have e11 : a.eval (.tmp 11) = .pointer (some ⟨y9.heap.size, 0, none⟩) := by rw [← ha]; go_simp
    clear ha
    exact quiet_loadC (C := Fm w [(w.heap.size, cpC c, 26), (w.heap.size + 1, pnC { p with Mode := 0 }, 30), (v4.heap.size, cpC N, 26), (v7.heap.size, dvC D, 37), (y9.heap.size, cpC { c with T := V, P := 1, X := 2, IE := false, Ph := N.Ph }, 26)]) y9.heap.size { c with T := V, P := 1, X := 2, IE := false, Ph := N.Ph } (fun _ h => h.get 4 _ _ _ rfl) (.tmp 11) rfl e11 u hy) ?_
  refine quiet_one (.bool false) rfl (fun u hy => by
    generalize ha : Act.put _ _ _ = a
    have e83 : a.eval (.tmp 83) = .agg (cpC N) := by rw [← ha]; go_simp
    have e84 : a.eval (.tmp 84) = .agg (cpC { c with T := V, P := 1, X := 2, IE := false, Ph := N.Ph }) := by rw [← ha]; go_simp
    clear ha
    exact quiet_neC (C := Fm w [(w.heap.size, cpC c, 26), (w.heap.size + 1, pnC { p with Mode := 0 }, 30), (v4.heap.size, cpC N, 26), (v7.heap.size, dvC D, 37), (y9.heap.size, cpC { c with T := V, P := 1, X := 2, IE := false, Ph := N.Ph }, 26)]) N { c with T := V, P := 1, X := 2, IE := false, Ph := N.Ph } hNe.out (.tmp 83) (.tmp 84) _ rfl e83 e84 u hy) ?_
  refine quiet_one (.bool false) rfl (fun u hy => by go_simp) ?_
  with_reducible refine quiet_one (.agg (dvC D)) ?_ ?_ ?_
  · kernel_rfl
  · intro u hy
    generalize ha : Act.put _ _ _ = a
    have e10 : a.eval (.tmp 10) = .pointer (some ⟨v7.heap.size, 0, none⟩) := by rw [← ha]; go_simp
    clear ha
    exact quiet_loadD (C := Fm w [(w.heap.size, cpC c, 26), (w.heap.size + 1, pnC { p with Mode := 0 }, 30), (v4.heap.size, cpC N, 26), (v7.heap.size, dvC D, 37), (y9.heap.size, cpC { c with T := V, P := 1, X := 2, IE := false, Ph := N.Ph }, 26)]) v7.heap.size D (fun _ h => h.get 3 _ _ _ rfl) (.tmp 10) rfl e10 u hy
  with_reducible refine quiet_one (.pointer (some ⟨w.heap.size, 23, none⟩)) ?_ ?_ ?_
  · kernel_rfl
  · intro u hy
    go_simp
  with_reducible refine quiet_one (.int .u8 o) ?_ ?_ ?_
  · kernel_rfl
  · intro u hy
    have d : u.cell? ⟨w.heap.size, 23, none⟩ = some (.int .u8 o) := by have := BoxC.fOp (hy.get 0 _ _ _ rfl); rw [ho.out] at this; exact this
    go_simp
  with_reducible refine quiet_one (.int .u8 (q : Int)) ?_ ?_ ?_
  · kernel_rfl
  · intro u hy
    go_simp
  with_reducible refine quiet_one (.pointer (some ⟨w.heap.size, 0, none⟩)) ?_ ?_ ?_
  · kernel_rfl
  · intro u hy
    go_simp
  with_reducible refine quiet_one (.pointer (some ⟨w.heap.size, q, none⟩)) ?_ ?_ ?_
  · kernel_rfl
  · intro u hy
    go_simp
  with_reducible refine quiet_one (.int .u16 (c.R q)) ?_ ?_ ?_
  · kernel_rfl
  · intro u hy
    have d := hR'.out _ _ (hy.get 0 _ _ _ rfl)
    go_simp
  with_reducible refine quiet_one (.agg (dvC D)) ?_ ?_ ?_
  · kernel_rfl
  · intro u hy
    generalize ha : Act.put _ _ _ = a
    have e93 : a.eval (.tmp 93) = .int .u16 (c.R q) := by rw [← ha]; go_simp
    have ec : ∀ v, a.eval (.const v) = v := fun _ => rfl
    clear ha
    exact quiet_buildD (C := Fm w [(w.heap.size, cpC c, 26), (w.heap.size + 1, pnC { p with Mode := 0 }, 30), (v4.heap.size, cpC N, 26), (v7.heap.size, dvC D, 37), (y9.heap.size, cpC { c with T := V, P := 1, X := 2, IE := false, Ph := N.Ph }, 26)]) _ [(0, .int .u8 3), (1, .int .u16 (c.R q)), (7, .bool true)] D rfl (by simp [e93, ec]) hbD.out u hy
  with_reducible refine quiet_one (.bool false) ?_ ?_ ?_
  · kernel_rfl
  · intro u hy
    generalize ha : Act.put _ _ _ = a
    have e87 : a.eval (.tmp 87) = .agg (dvC D) := by rw [← ha]; go_simp
    have e94 : a.eval (.tmp 94) = .agg (dvC D) := by rw [← ha]; go_simp
    clear ha
    exact quiet_neD (C := Fm w [(w.heap.size, cpC c, 26), (w.heap.size + 1, pnC { p with Mode := 0 }, 30), (v4.heap.size, cpC N, 26), (v7.heap.size, dvC D, 37), (y9.heap.size, cpC { c with T := V, P := 1, X := 2, IE := false, Ph := N.Ph }, 26)]) D D rfl (.tmp 87) (.tmp 94) _ rfl e87 e94 u hy
  refine wpQuiet_nil ?_
  intro y14 K15
  replace K15 : Hid _ := K15
  have c25 := BoxC.fPh (K15.out.get 0 _ _ _ rfl)
  rw [hph.out] at c25
  have c23 := BoxC.fOp (K15.out.get 0 _ _ _ rfl)
  rw [ho.out] at c23
  have k25 := BoxC.fPh (K15.out.get 2 _ _ _ rfl)
  rw [n1.out] at k25
  have k21 := BoxC.fIE (K15.out.get 2 _ _ _ rfl)
  have r6 : y14.cell? ⟨w.heap.size + 1, 6, none⟩ = some (.bool p.DI) := BoxP.fDI (p := { p with Mode := 0 }) (K15.out.get 1 _ _ _ rfl)
  have r7 : y14.cell? ⟨w.heap.size + 1, 7, none⟩ = some (.bool p.DO) := BoxP.fDO (p := { p with Mode := 0 }) (K15.out.get 1 _ _ _ rfl)
  have r8 : y14.cell? ⟨w.heap.size + 1, 8, none⟩ = some (.bool p.Int_) := BoxP.fInt (p := { p with Mode := 0 }) (K15.out.get 1 _ _ _ rfl)
  rw [l1.out] at r6
  go_simp
  go_wp2
  all_goals go_ret
  all_goals exact ⟨by first | rfl | simp, K15.out.low⟩

theorem asked_8do (w : World) (c : Cp) (hc : c.wf) (p : Pn) (hp : p.wf) (tb : Tabs w) (hch : checkB c = true) (N : Cp) (hN : goOnM c { p with Mode := 0 } = N) (h : c.Ph = 8) (l1 : p.DI = false) (l2 : p.DO = true) (hPh : N.Ph = 7) : Calls Tryd.prog 5 #[.agg (cpC c), .agg (pnC p)] w fun e w' => e = .returned (.bool true) ∧ Below w.heap.size w w' := by
  have hA := fun v t => lawake v t
  have hM := fun v => lmay v c hc
  rw [hch] at hM
  have hS := fun v t => ystep v c hc { p with Mode := 0 } (pn_wf0 hp) t
  rw [step_run p hch, hN] at hS
  have hD := fun v t => ydrive v c hc t 0 (by decide)
  have zz := zeroVC
  have zd := zeroVD
  have tb' : Hid (Tabs w) := tb
  have hF : Hid (Fm w [(w.heap.size, cpC c, 26), (w.heap.size + 1, pnC p, 30)] ((w.alloc (.cells (cpC c) 26)).alloc (.cells (pnC p) 30))) := Fm.two w c p
  obtain ⟨o, ho⟩ : ∃ o : Int, (c.Op : Int) = o := ⟨_, rfl⟩
  have hph : (c.Ph : Int) = 8 := by omega
  have n1 : (N.Ph : Int) = 7 := by omega
  have hm := (checkB_iff c).1 hch
  have hP : c.P < 16 := by have := hm.1; omega
  have hX : c.X < 16 := by have := hm.2.1; omega
  obtain ⟨q, hq⟩ : ∃ q, c.Op % 16 = q := ⟨_, rfl⟩
  have hq16 : q < 16 := by omega
  have hl : bits .and .u8 o 15 = (q : Int) := by rw [← ho, low4 c.Op hc.Op]; omega
  have hDe : driveM c 0 = (⟨3, c.R q, false, false, false, 0, 0, true⟩ : Dv) := by unfold driveM runM; rw [if_pos hch]; simp only [h]; rw [hq]; rfl
  rw [hDe] at hD
  obtain ⟨V, hV⟩ : ∃ V, 16 * (c.X : Int) + (c.P : Int) = V := ⟨_, rfl⟩
  have v1' : IntKind.u8.wrap (16 * (c.X : Int)) = 16 * (c.X : Int) := by rw [IntKind.wrap_u8]; omega
  have v2' : IntKind.u8.wrap (16 * (c.X : Int) + (c.P : Int)) = V := by rw [IntKind.wrap_u8]; omega
  have hNe : Hid (cpC N = cpC { c with T := V, P := 1, X := 2, IE := false, Ph := N.Ph }) := by rw [show (Hid (cpC N = cpC { c with T := V, P := 1, X := 2, IE := false, Ph := N.Ph })) = (cpC N = cpC { c with T := V, P := 1, X := 2, IE := false, Ph := N.Ph }) from rfl, ← hN, ← hV]; unfold goOnM; simp only [h]
  obtain ⟨D, hDD⟩ : ∃ D : Dv, (⟨3, c.R q, false, false, false, 0, 0, true⟩ : Dv) = D := ⟨_, rfl⟩
  rw [hDD] at hD
  have hbD : Hid (Tryd.prog.built 37 [(0, .int .u8 3), (1, .int .u16 (c.R q)), (7, .bool true)] = some (dvC D)) := by rw [← hDD]; exact (by kernel_rfl : Tryd.prog.built 37 [(0, .int .u8 3), (1, .int .u16 (c.R q)), (7, .bool true)] = some (dvC (⟨3, c.R q, false, false, false, 0, 0, true⟩ : Dv)))
  have ix := fun v => idx (g := w.heap.size) (off := 0) (N := 16) Tryd.underlying23 infoR .u8 q v hq16
  simp only [Nat.zero_add, Nat.mul_one] at ix
  have hR' : Hid (∀ b x, BoxC x b c → x.cell? ⟨b, q, none⟩ = some (.int .u16 (c.R q))) := fun b x h => h.r q hq16
  replace ho : Hid _ := ho
  replace hph : Hid _ := hph
  replace n1 : Hid _ := n1
  replace l1 : Hid _ := l1
  replace l2 : Hid _ := l2
  clear hc hp tb hch hN h hPh hDe hDD hm hP hX hq hq16 hV
  go_enter Tryd.func5, Tryd.ntmps5
  go_wp2_with (first
    | (refine gen_world ((w.alloc (.cells (cpC c) 26)).alloc (.cells (pnC p) 30)) (Fm w [(w.heap.size, cpC c, 26), (w.heap.size + 1, pnC p, 30)]) hF.out ?_; intro y K0)
    | (go_at_call 12; refine (hA _ (tb'.out.below K0.out.low)).mono ?_; rintro e v1 ⟨rfl, hb1⟩; have K1 : Hid _ := K0.out.below hb1)
    | (go_at_call 8; refine (hM _).mono ?_; rintro e v2 ⟨rfl, hb2⟩; have K2 : Hid _ := K1.out.below hb2; have dM := BoxP.fMode (K2.out.get 1 _ _ _ rfl); have fM := frozen_heap (K2.out.get 1 _ _ _ rfl) 0; have K3 : Hid (Fm w [(w.heap.size, cpC c, 26), (w.heap.size + 1, pnC { p with Mode := 0 }, 30)] (v2.setCell ⟨w.heap.size + 1, 0, none⟩ (.int .u8 0))) := K2.out.setCell 1 _ _ _ _ rfl 0 _ rfl)
    | (refine gen_world (v2.setCell ⟨w.heap.size + 1, 0, none⟩ (.int .u8 0)) (Fm w [(w.heap.size, cpC c, 26), (w.heap.size + 1, pnC { p with Mode := 0 }, 30)]) K3.out ?_; intro y3 K4)
    | (go_at_call 10; refine (hS _ (tb'.out.below K4.out.low)).mono ?_; rintro e v4 ⟨rfl, hb4⟩; have K5 : Hid _ := K4.out.below hb4)
    | (refine gen_world (v4.alloc (.cells (cpC zeroC) 26)) (Fm w [(w.heap.size, cpC c, 26), (w.heap.size + 1, pnC { p with Mode := 0 }, 30), (v4.heap.size, cpC zeroC, 26)]) (K5.out.new _ _) ?_; intro y5 K55)
    | (refine at_storeC v4.heap.size zeroC N (K55.out.get 2 _ _ _ rfl) _ _ rfl rfl rfl rfl ?_; intro y6 hw6; have K6 : Hid (Fm w [(w.heap.size, cpC c, 26), (w.heap.size + 1, pnC { p with Mode := 0 }, 30), (v4.heap.size, cpC N, 26)] y6) := K55.out.put 2 _ _ _ _ rfl hw6.out; have d25 := BoxC.fPh (K6.out.get 0 _ _ _ rfl); have d23 := BoxC.fOp (K6.out.get 0 _ _ _ rfl); rw [ho.out] at d23; have n25 := BoxC.fPh (K6.out.get 2 _ _ _ rfl); have n21 := BoxC.fIE (K6.out.get 2 _ _ _ rfl); have n23 := BoxC.fOp (K6.out.get 2 _ _ _ rfl); have p1 : y6.cell? ⟨w.heap.size + 1, 1, none⟩ = some (.int .u8 p.Data) := BoxP.fData (p := { p with Mode := 0 }) (K6.out.get 1 _ _ _ rfl); have p6 : y6.cell? ⟨w.heap.size + 1, 6, none⟩ = some (.bool p.DI) := BoxP.fDI (p := { p with Mode := 0 }) (K6.out.get 1 _ _ _ rfl); have p7 : y6.cell? ⟨w.heap.size + 1, 7, none⟩ = some (.bool p.DO) := BoxP.fDO (p := { p with Mode := 0 }) (K6.out.get 1 _ _ _ rfl); have p8 : y6.cell? ⟨w.heap.size + 1, 8, none⟩ = some (.bool p.Int_) := BoxP.fInt (p := { p with Mode := 0 }) (K6.out.get 1 _ _ _ rfl); rw [hph.out] at d25)
    | (go_at_call 11; refine (hD _ (tb'.out.below K6.out.low)).mono ?_; rintro e v7 ⟨rfl, hb7⟩; have K7 : Hid _ := K6.out.below hb7)
    | (refine gen_world (v7.alloc (.cells (dvC zeroD) 37)) (Fm w [(w.heap.size, cpC c, 26), (w.heap.size + 1, pnC { p with Mode := 0 }, 30), (v4.heap.size, cpC N, 26), (v7.heap.size, dvC zeroD, 37)]) (K7.out.new _ _) ?_; intro y8 K8)
    | (refine at_storeD v7.heap.size zeroD D (K8.out.get 3 _ _ _ rfl) _ _ rfl rfl rfl rfl ?_; intro y9 hw9; have K9 : Hid (Fm w [(w.heap.size, cpC c, 26), (w.heap.size + 1, pnC { p with Mode := 0 }, 30), (v4.heap.size, cpC N, 26), (v7.heap.size, dvC D, 37)] y9) := K8.out.put 3 _ _ _ _ rfl hw9.out)
    | (refine gen_world (y9.alloc (.cells (cpC zeroC) 26)) (Fm w [(w.heap.size, cpC c, 26), (w.heap.size + 1, pnC { p with Mode := 0 }, 30), (v4.heap.size, cpC N, 26), (v7.heap.size, dvC D, 37), (y9.heap.size, cpC zeroC, 26)]) (K9.out.new _ _) ?_; intro y10 K10)
    | (refine at_storeC y9.heap.size zeroC c (K10.out.get 4 _ _ _ rfl) _ _ rfl rfl rfl rfl ?_; intro y11 hw11; have K11 : Hid (Fm w [(w.heap.size, cpC c, 26), (w.heap.size + 1, pnC { p with Mode := 0 }, 30), (v4.heap.size, cpC N, 26), (v7.heap.size, dvC D, 37), (y9.heap.size, cpC c, 26)] y11) := K10.out.put 4 _ _ _ _ rfl hw11.out; have cX := BoxC.fX (K11.out.get 0 _ _ _ rfl); have cP := BoxC.fP (K11.out.get 0 _ _ _ rfl); have x20K11 := BoxC.fT (K11.out.get 4 _ _ _ rfl); have g20K11 := frozen_heap (K11.out.get 4 _ _ _ rfl) 20; have S0 : Hid (Fm w [(w.heap.size, cpC c, 26), (w.heap.size + 1, pnC { p with Mode := 0 }, 30), (v4.heap.size, cpC N, 26), (v7.heap.size, dvC D, 37), (y9.heap.size, cpC { c with T := V }, 26)] (y11.setCell ⟨y9.heap.size, 20, none⟩ (.int .u8 V))) := K11.out.setCell 4 _ _ _ _ rfl 20 _ (cpC_setT c V))
    | (refine gen_world (y11.setCell ⟨y9.heap.size, 20, none⟩ (.int .u8 V)) (Fm w [(w.heap.size, cpC c, 26), (w.heap.size + 1, pnC { p with Mode := 0 }, 30), (v4.heap.size, cpC N, 26), (v7.heap.size, dvC D, 37), (y9.heap.size, cpC { c with T := V }, 26)]) S0.out ?_; intro z0 T0; have x18T0 := BoxC.fP (T0.out.get 4 _ _ _ rfl); have g18T0 := frozen_heap (T0.out.get 4 _ _ _ rfl) 18; have S1 : Hid (Fm w [(w.heap.size, cpC c, 26), (w.heap.size + 1, pnC { p with Mode := 0 }, 30), (v4.heap.size, cpC N, 26), (v7.heap.size, dvC D, 37), (y9.heap.size, cpC { c with T := V, P := 1 }, 26)] (z0.setCell ⟨y9.heap.size, 18, none⟩ (.int .u8 1))) := T0.out.setCell 4 _ _ _ _ rfl 18 _ (cpC_setP { c with T := V } 1))
    | (refine gen_world (z0.setCell ⟨y9.heap.size, 18, none⟩ (.int .u8 1)) (Fm w [(w.heap.size, cpC c, 26), (w.heap.size + 1, pnC { p with Mode := 0 }, 30), (v4.heap.size, cpC N, 26), (v7.heap.size, dvC D, 37), (y9.heap.size, cpC { c with T := V, P := 1 }, 26)]) S1.out ?_; intro z1 T1; have x19T1 := BoxC.fX (T1.out.get 4 _ _ _ rfl); have g19T1 := frozen_heap (T1.out.get 4 _ _ _ rfl) 19; have S2 : Hid (Fm w [(w.heap.size, cpC c, 26), (w.heap.size + 1, pnC { p with Mode := 0 }, 30), (v4.heap.size, cpC N, 26), (v7.heap.size, dvC D, 37), (y9.heap.size, cpC { c with T := V, P := 1, X := 2 }, 26)] (z1.setCell ⟨y9.heap.size, 19, none⟩ (.int .u8 2))) := T1.out.setCell 4 _ _ _ _ rfl 19 _ (cpC_setX { c with T := V, P := 1 } 2))
    | (refine gen_world (z1.setCell ⟨y9.heap.size, 19, none⟩ (.int .u8 2)) (Fm w [(w.heap.size, cpC c, 26), (w.heap.size + 1, pnC { p with Mode := 0 }, 30), (v4.heap.size, cpC N, 26), (v7.heap.size, dvC D, 37), (y9.heap.size, cpC { c with T := V, P := 1, X := 2 }, 26)]) S2.out ?_; intro z2 T2; have x21T2 := BoxC.fIE (T2.out.get 4 _ _ _ rfl); have g21T2 := frozen_heap (T2.out.get 4 _ _ _ rfl) 21; have S3 : Hid (Fm w [(w.heap.size, cpC c, 26), (w.heap.size + 1, pnC { p with Mode := 0 }, 30), (v4.heap.size, cpC N, 26), (v7.heap.size, dvC D, 37), (y9.heap.size, cpC { c with T := V, P := 1, X := 2, IE := false }, 26)] (z2.setCell ⟨y9.heap.size, 21, none⟩ (.bool false))) := T2.out.setCell 4 _ _ _ _ rfl 21 _ (cpC_setIE { c with T := V, P := 1, X := 2 } false))
    | (refine gen_world (z2.setCell ⟨y9.heap.size, 21, none⟩ (.bool false)) (Fm w [(w.heap.size, cpC c, 26), (w.heap.size + 1, pnC { p with Mode := 0 }, 30), (v4.heap.size, cpC N, 26), (v7.heap.size, dvC D, 37), (y9.heap.size, cpC { c with T := V, P := 1, X := 2, IE := false }, 26)]) S3.out ?_; intro z3 T3; have x25T3 := BoxC.fPh (T3.out.get 4 _ _ _ rfl); have g25T3 := frozen_heap (T3.out.get 4 _ _ _ rfl) 25; have m25 := BoxC.fPh (T3.out.get 2 _ _ _ rfl); have S4 : Hid (Fm w [(w.heap.size, cpC c, 26), (w.heap.size + 1, pnC { p with Mode := 0 }, 30), (v4.heap.size, cpC N, 26), (v7.heap.size, dvC D, 37), (y9.heap.size, cpC { c with T := V, P := 1, X := 2, IE := false, Ph := N.Ph }, 26)] (z3.setCell ⟨y9.heap.size, 25, none⟩ (.int .u8 (N.Ph : Int)))) := T3.out.setCell 4 _ _ _ _ rfl 25 _ (cpC_setPh { c with T := V, P := 1, X := 2, IE := false } N.Ph))
    | (refine at_loadC w.heap.size c (K9.out.get 0 _ _ _ rfl) _ rfl rfl rfl ?_)
    | (refine at_loadC w.heap.size c (K6.out.get 0 _ _ _ rfl) _ rfl rfl rfl ?_)
    | (refine at_loadC w.heap.size c (K4.out.get 0 _ _ _ rfl) _ rfl rfl rfl ?_)
    | (refine at_loadP (w.heap.size + 1) _ (K4.out.get 1 _ _ _ rfl) _ rfl rfl rfl ?_)
    | (refine at_loadC w.heap.size c (K1.out.get 0 _ _ _ rfl) _ rfl rfl rfl ?_))
  refine region_class_tail 13 (Fm w [(w.heap.size, cpC c, 26), (w.heap.size + 1, pnC { p with Mode := 0 }, 30), (v4.heap.size, cpC N, 26), (v7.heap.size, dvC D, 37), (y9.heap.size, cpC { c with T := V, P := 1, X := 2, IE := false, Ph := N.Ph }, 26)]) (by kernel_rfl) (by kernel_rfl) (S4.out.below (below_drew (Below.refl _ _))) ?_
  simp only [List.take_succ_cons, List.take_zero, List.drop_succ_cons, List.drop_zero]
  refine quiet_one (.agg (cpC N)) rfl (quiet_loadC v4.heap.size N (fun _ h => h.get 2 _ _ _ rfl) (.tmp 7) rfl (by go_simp)) ?_
  refine quiet_one (.agg (cpC { c with T := V, P := 1, X := 2, IE := false, Ph := N.Ph })) rfl (fun u hy => by
    generalize ha : Act.put _ _ _ = a
    have e11 : a.eval (.tmp 11) = .pointer (some ⟨y9.heap.size, 0, none⟩) := by rw [← ha]; go_simp
    clear ha
    exact quiet_loadC (C := Fm w [(w.heap.size, cpC c, 26), (w.heap.size + 1, pnC { p with Mode := 0 }, 30), (v4.heap.size, cpC N, 26), (v7.heap.size, dvC D, 37), (y9.heap.size, cpC { c with T := V, P := 1, X := 2, IE := false, Ph := N.Ph }, 26)]) y9.heap.size { c with T := V, P := 1, X := 2, IE := false, Ph := N.Ph } (fun _ h => h.get 4 _ _ _ rfl) (.tmp 11) rfl e11 u hy) ?_
  refine quiet_one (.bool false) rfl (fun u hy => by
    generalize ha : Act.put _ _ _ = a
    have e83 : a.eval (.tmp 83) = .agg (cpC N) := by rw [← ha]; go_simp
    have e84 : a.eval (.tmp 84) = .agg (cpC { c with T := V, P := 1, X := 2, IE := false, Ph := N.Ph }) := by rw [← ha]; go_simp
    clear ha
    exact quiet_neC (C := Fm w [(w.heap.size, cpC c, 26), (w.heap.size + 1, pnC { p with Mode := 0 }, 30), (v4.heap.size, cpC N, 26), (v7.heap.size, dvC D, 37), (y9.heap.size, cpC { c with T := V, P := 1, X := 2, IE := false, Ph := N.Ph }, 26)]) N { c with T := V, P := 1, X := 2, IE := false, Ph := N.Ph } hNe.out (.tmp 83) (.tmp 84) _ rfl e83 e84 u hy) ?_
  refine quiet_one (.bool false) rfl (fun u hy => by go_simp) ?_
  with_reducible refine quiet_one (.agg (dvC D)) ?_ ?_ ?_
  · kernel_rfl
  · intro u hy
    generalize ha : Act.put _ _ _ = a
    have e10 : a.eval (.tmp 10) = .pointer (some ⟨v7.heap.size, 0, none⟩) := by rw [← ha]; go_simp
    clear ha
    exact quiet_loadD (C := Fm w [(w.heap.size, cpC c, 26), (w.heap.size + 1, pnC { p with Mode := 0 }, 30), (v4.heap.size, cpC N, 26), (v7.heap.size, dvC D, 37), (y9.heap.size, cpC { c with T := V, P := 1, X := 2, IE := false, Ph := N.Ph }, 26)]) v7.heap.size D (fun _ h => h.get 3 _ _ _ rfl) (.tmp 10) rfl e10 u hy
  with_reducible refine quiet_one (.pointer (some ⟨w.heap.size, 23, none⟩)) ?_ ?_ ?_
  · kernel_rfl
  · intro u hy
    go_simp
  with_reducible refine quiet_one (.int .u8 o) ?_ ?_ ?_
  · kernel_rfl
  · intro u hy
    have d : u.cell? ⟨w.heap.size, 23, none⟩ = some (.int .u8 o) := by have := BoxC.fOp (hy.get 0 _ _ _ rfl); rw [ho.out] at this; exact this
    go_simp
  with_reducible refine quiet_one (.int .u8 (q : Int)) ?_ ?_ ?_
  · kernel_rfl
  · intro u hy
    go_simp
  with_reducible refine quiet_one (.pointer (some ⟨w.heap.size, 0, none⟩)) ?_ ?_ ?_
  · kernel_rfl
  · intro u hy
    go_simp
  with_reducible refine quiet_one (.pointer (some ⟨w.heap.size, q, none⟩)) ?_ ?_ ?_
  · kernel_rfl
  · intro u hy
    go_simp
  with_reducible refine quiet_one (.int .u16 (c.R q)) ?_ ?_ ?_
  · kernel_rfl
  · intro u hy
    have d := hR'.out _ _ (hy.get 0 _ _ _ rfl)
    go_simp
  with_reducible refine quiet_one (.agg (dvC D)) ?_ ?_ ?_
  · kernel_rfl
  · intro u hy
    generalize ha : Act.put _ _ _ = a
    have e93 : a.eval (.tmp 93) = .int .u16 (c.R q) := by rw [← ha]; go_simp
    have ec : ∀ v, a.eval (.const v) = v := fun _ => rfl
    clear ha
    exact quiet_buildD (C := Fm w [(w.heap.size, cpC c, 26), (w.heap.size + 1, pnC { p with Mode := 0 }, 30), (v4.heap.size, cpC N, 26), (v7.heap.size, dvC D, 37), (y9.heap.size, cpC { c with T := V, P := 1, X := 2, IE := false, Ph := N.Ph }, 26)]) _ [(0, .int .u8 3), (1, .int .u16 (c.R q)), (7, .bool true)] D rfl (by simp [e93, ec]) hbD.out u hy
  with_reducible refine quiet_one (.bool false) ?_ ?_ ?_
  · kernel_rfl
  · intro u hy
    generalize ha : Act.put _ _ _ = a
    have e87 : a.eval (.tmp 87) = .agg (dvC D) := by rw [← ha]; go_simp
    have e94 : a.eval (.tmp 94) = .agg (dvC D) := by rw [← ha]; go_simp
    clear ha
    exact quiet_neD (C := Fm w [(w.heap.size, cpC c, 26), (w.heap.size + 1, pnC { p with Mode := 0 }, 30), (v4.heap.size, cpC N, 26), (v7.heap.size, dvC D, 37), (y9.heap.size, cpC { c with T := V, P := 1, X := 2, IE := false, Ph := N.Ph }, 26)]) D D rfl (.tmp 87) (.tmp 94) _ rfl e87 e94 u hy
  refine wpQuiet_nil ?_
  intro y14 K15
  replace K15 : Hid _ := K15
  have c25 := BoxC.fPh (K15.out.get 0 _ _ _ rfl)
  rw [hph.out] at c25
  have c23 := BoxC.fOp (K15.out.get 0 _ _ _ rfl)
  rw [ho.out] at c23
  have k25 := BoxC.fPh (K15.out.get 2 _ _ _ rfl)
  rw [n1.out] at k25
  have k21 := BoxC.fIE (K15.out.get 2 _ _ _ rfl)
  have r6 : y14.cell? ⟨w.heap.size + 1, 6, none⟩ = some (.bool p.DI) := BoxP.fDI (p := { p with Mode := 0 }) (K15.out.get 1 _ _ _ rfl)
  have r7 : y14.cell? ⟨w.heap.size + 1, 7, none⟩ = some (.bool p.DO) := BoxP.fDO (p := { p with Mode := 0 }) (K15.out.get 1 _ _ _ rfl)
  have r8 : y14.cell? ⟨w.heap.size + 1, 8, none⟩ = some (.bool p.Int_) := BoxP.fInt (p := { p with Mode := 0 }) (K15.out.get 1 _ _ _ rfl)
  rw [l1.out] at r6
  rw [l2.out] at r7
  go_simp
  go_wp2
  all_goals go_ret
  all_goals exact ⟨by first | rfl | simp, K15.out.low⟩

theorem asked_8in (w : World) (c : Cp) (hc : c.wf) (p : Pn) (hp : p.wf) (tb : Tabs w) (hch : checkB c = true) (N : Cp) (hN : goOnM c { p with Mode := 0 } = N) (h : c.Ph = 8) (l1 : p.DI = false) (l2 : p.DO = false) (l3 : p.Int_ = true) (l4 : N.IE = true) (hPh : N.Ph = 1) : Calls Tryd.prog 5 #[.agg (cpC c), .agg (pnC p)] w fun e w' => e = .returned (.bool true) ∧ Below w.heap.size w w' := by
  have hA := fun v t => lawake v t
  have hM := fun v => lmay v c hc
  rw [hch] at hM
  have hS := fun v t => ystep v c hc { p with Mode := 0 } (pn_wf0 hp) t
  rw [step_run p hch, hN] at hS
  have hD := fun v t => ydrive v c hc t 0 (by decide)
  have zz := zeroVC
  have zd := zeroVD
  have tb' : Hid (Tabs w) := tb
  have hF : Hid (Fm w [(w.heap.size, cpC c, 26), (w.heap.size + 1, pnC p, 30)] ((w.alloc (.cells (cpC c) 26)).alloc (.cells (pnC p) 30))) := Fm.two w c p
  obtain ⟨o, ho⟩ : ∃ o : Int, (c.Op : Int) = o := ⟨_, rfl⟩
  have hph : (c.Ph : Int) = 8 := by omega
  have n1 : (N.Ph : Int) = 1 := by omega
  have hm := (checkB_iff c).1 hch
  have hP : c.P < 16 := by have := hm.1; omega
  have hX : c.X < 16 := by have := hm.2.1; omega
  obtain ⟨q, hq⟩ : ∃ q, c.Op % 16 = q := ⟨_, rfl⟩
  have hq16 : q < 16 := by omega
  have hl : bits .and .u8 o 15 = (q : Int) := by rw [← ho, low4 c.Op hc.Op]; omega
  have hDe : driveM c 0 = (⟨3, c.R q, false, false, false, 0, 0, true⟩ : Dv) := by unfold driveM runM; rw [if_pos hch]; simp only [h]; rw [hq]; rfl
  rw [hDe] at hD
  obtain ⟨V, hV⟩ : ∃ V, 16 * (c.X : Int) + (c.P : Int) = V := ⟨_, rfl⟩
  have v1' : IntKind.u8.wrap (16 * (c.X : Int)) = 16 * (c.X : Int) := by rw [IntKind.wrap_u8]; omega
  have v2' : IntKind.u8.wrap (16 * (c.X : Int) + (c.P : Int)) = V := by rw [IntKind.wrap_u8]; omega
  have hNe : Hid (cpC N = cpC { c with T := V, P := 1, X := 2, IE := false, Ph := N.Ph }) := by rw [show (Hid (cpC N = cpC { c with T := V, P := 1, X := 2, IE := false, Ph := N.Ph })) = (cpC N = cpC { c with T := V, P := 1, X := 2, IE := false, Ph := N.Ph }) from rfl, ← hN, ← hV]; unfold goOnM; simp only [h]
  obtain ⟨D, hDD⟩ : ∃ D : Dv, (⟨3, c.R q, false, false, false, 0, 0, true⟩ : Dv) = D := ⟨_, rfl⟩
  rw [hDD] at hD
  have hbD : Hid (Tryd.prog.built 37 [(0, .int .u8 3), (1, .int .u16 (c.R q)), (7, .bool true)] = some (dvC D)) := by rw [← hDD]; exact (by kernel_rfl : Tryd.prog.built 37 [(0, .int .u8 3), (1, .int .u16 (c.R q)), (7, .bool true)] = some (dvC (⟨3, c.R q, false, false, false, 0, 0, true⟩ : Dv)))
  have ix := fun v => idx (g := w.heap.size) (off := 0) (N := 16) Tryd.underlying23 infoR .u8 q v hq16
  simp only [Nat.zero_add, Nat.mul_one] at ix
  have hR' : Hid (∀ b x, BoxC x b c → x.cell? ⟨b, q, none⟩ = some (.int .u16 (c.R q))) := fun b x h => h.r q hq16
  replace ho : Hid _ := ho
  replace hph : Hid _ := hph
  replace n1 : Hid _ := n1
  replace l1 : Hid _ := l1
  replace l2 : Hid _ := l2
  replace l3 : Hid _ := l3
  replace l4 : Hid _ := l4
  clear hc hp tb hch hN h hPh hDe hDD hm hP hX hq hq16 hV
  go_enter Tryd.func5, Tryd.ntmps5
  go_wp2_with (first
    | (refine gen_world ((w.alloc (.cells (cpC c) 26)).alloc (.cells (pnC p) 30)) (Fm w [(w.heap.size, cpC c, 26), (w.heap.size + 1, pnC p, 30)]) hF.out ?_; intro y K0)
    | (go_at_call 12; refine (hA _ (tb'.out.below K0.out.low)).mono ?_; rintro e v1 ⟨rfl, hb1⟩; have K1 : Hid _ := K0.out.below hb1)
    | (go_at_call 8; refine (hM _).mono ?_; rintro e v2 ⟨rfl, hb2⟩; have K2 : Hid _ := K1.out.below hb2; have dM := BoxP.fMode (K2.out.get 1 _ _ _ rfl); have fM := frozen_heap (K2.out.get 1 _ _ _ rfl) 0; have K3 : Hid (Fm w [(w.heap.size, cpC c, 26), (w.heap.size + 1, pnC { p with Mode := 0 }, 30)] (v2.setCell ⟨w.heap.size + 1, 0, none⟩ (.int .u8 0))) := K2.out.setCell 1 _ _ _ _ rfl 0 _ rfl)
    | (refine gen_world (v2.setCell ⟨w.heap.size + 1, 0, none⟩ (.int .u8 0)) (Fm w [(w.heap.size, cpC c, 26), (w.heap.size + 1, pnC { p with Mode := 0 }, 30)]) K3.out ?_; intro y3 K4)
    | (go_at_call 10; refine (hS _ (tb'.out.below K4.out.low)).mono ?_; rintro e v4 ⟨rfl, hb4⟩; have K5 : Hid _ := K4.out.below hb4)
    | (refine gen_world (v4.alloc (.cells (cpC zeroC) 26)) (Fm w [(w.heap.size, cpC c, 26), (w.heap.size + 1, pnC { p with Mode := 0 }, 30), (v4.heap.size, cpC zeroC, 26)]) (K5.out.new _ _) ?_; intro y5 K55)
    | (refine at_storeC v4.heap.size zeroC N (K55.out.get 2 _ _ _ rfl) _ _ rfl rfl rfl rfl ?_; intro y6 hw6; have K6 : Hid (Fm w [(w.heap.size, cpC c, 26), (w.heap.size + 1, pnC { p with Mode := 0 }, 30), (v4.heap.size, cpC N, 26)] y6) := K55.out.put 2 _ _ _ _ rfl hw6.out; have d25 := BoxC.fPh (K6.out.get 0 _ _ _ rfl); have d23 := BoxC.fOp (K6.out.get 0 _ _ _ rfl); rw [ho.out] at d23; have n25 := BoxC.fPh (K6.out.get 2 _ _ _ rfl); have n21 := BoxC.fIE (K6.out.get 2 _ _ _ rfl); have n23 := BoxC.fOp (K6.out.get 2 _ _ _ rfl); have p1 : y6.cell? ⟨w.heap.size + 1, 1, none⟩ = some (.int .u8 p.Data) := BoxP.fData (p := { p with Mode := 0 }) (K6.out.get 1 _ _ _ rfl); have p6 : y6.cell? ⟨w.heap.size + 1, 6, none⟩ = some (.bool p.DI) := BoxP.fDI (p := { p with Mode := 0 }) (K6.out.get 1 _ _ _ rfl); have p7 : y6.cell? ⟨w.heap.size + 1, 7, none⟩ = some (.bool p.DO) := BoxP.fDO (p := { p with Mode := 0 }) (K6.out.get 1 _ _ _ rfl); have p8 : y6.cell? ⟨w.heap.size + 1, 8, none⟩ = some (.bool p.Int_) := BoxP.fInt (p := { p with Mode := 0 }) (K6.out.get 1 _ _ _ rfl); rw [hph.out] at d25)
    | (go_at_call 11; refine (hD _ (tb'.out.below K6.out.low)).mono ?_; rintro e v7 ⟨rfl, hb7⟩; have K7 : Hid _ := K6.out.below hb7)
    | (refine gen_world (v7.alloc (.cells (dvC zeroD) 37)) (Fm w [(w.heap.size, cpC c, 26), (w.heap.size + 1, pnC { p with Mode := 0 }, 30), (v4.heap.size, cpC N, 26), (v7.heap.size, dvC zeroD, 37)]) (K7.out.new _ _) ?_; intro y8 K8)
    | (refine at_storeD v7.heap.size zeroD D (K8.out.get 3 _ _ _ rfl) _ _ rfl rfl rfl rfl ?_; intro y9 hw9; have K9 : Hid (Fm w [(w.heap.size, cpC c, 26), (w.heap.size + 1, pnC { p with Mode := 0 }, 30), (v4.heap.size, cpC N, 26), (v7.heap.size, dvC D, 37)] y9) := K8.out.put 3 _ _ _ _ rfl hw9.out)
    | (refine gen_world (y9.alloc (.cells (cpC zeroC) 26)) (Fm w [(w.heap.size, cpC c, 26), (w.heap.size + 1, pnC { p with Mode := 0 }, 30), (v4.heap.size, cpC N, 26), (v7.heap.size, dvC D, 37), (y9.heap.size, cpC zeroC, 26)]) (K9.out.new _ _) ?_; intro y10 K10)
    | (refine at_storeC y9.heap.size zeroC c (K10.out.get 4 _ _ _ rfl) _ _ rfl rfl rfl rfl ?_; intro y11 hw11; have K11 : Hid (Fm w [(w.heap.size, cpC c, 26), (w.heap.size + 1, pnC { p with Mode := 0 }, 30), (v4.heap.size, cpC N, 26), (v7.heap.size, dvC D, 37), (y9.heap.size, cpC c, 26)] y11) := K10.out.put 4 _ _ _ _ rfl hw11.out; have cX := BoxC.fX (K11.out.get 0 _ _ _ rfl); have cP := BoxC.fP (K11.out.get 0 _ _ _ rfl); have x20K11 := BoxC.fT (K11.out.get 4 _ _ _ rfl); have g20K11 := frozen_heap (K11.out.get 4 _ _ _ rfl) 20; have S0 : Hid (Fm w [(w.heap.size, cpC c, 26), (w.heap.size + 1, pnC { p with Mode := 0 }, 30), (v4.heap.size, cpC N, 26), (v7.heap.size, dvC D, 37), (y9.heap.size, cpC { c with T := V }, 26)] (y11.setCell ⟨y9.heap.size, 20, none⟩ (.int .u8 V))) := K11.out.setCell 4 _ _ _ _ rfl 20 _ (cpC_setT c V))
    | (refine gen_world (y11.setCell ⟨y9.heap.size, 20, none⟩ (.int .u8 V)) (Fm w [(w.heap.size, cpC c, 26), (w.heap.size + 1, pnC { p with Mode := 0 }, 30), (v4.heap.size, cpC N, 26), (v7.heap.size, dvC D, 37), (y9.heap.size, cpC { c with T := V }, 26)]) S0.out ?_; intro z0 T0; have x18T0 := BoxC.fP (T0.out.get 4 _ _ _ rfl); have g18T0 := frozen_heap (T0.out.get 4 _ _ _ rfl) 18; have S1 : Hid (Fm w [(w.heap.size, cpC c, 26), (w.heap.size + 1, pnC { p with Mode := 0 }, 30), (v4.heap.size, cpC N, 26), (v7.heap.size, dvC D, 37), (y9.heap.size, cpC { c with T := V, P := 1 }, 26)] (z0.setCell ⟨y9.heap.size, 18, none⟩ (.int .u8 1))) := T0.out.setCell 4 _ _ _ _ rfl 18 _ (cpC_setP { c with T := V } 1))
    | (refine gen_world (z0.setCell ⟨y9.heap.size, 18, none⟩ (.int .u8 1)) (Fm w [(w.heap.size, cpC c, 26), (w.heap.size + 1, pnC { p with Mode := 0 }, 30), (v4.heap.size, cpC N, 26), (v7.heap.size, dvC D, 37), (y9.heap.size, cpC { c with T := V, P := 1 }, 26)]) S1.out ?_; intro z1 T1; have x19T1 := BoxC.fX (T1.out.get 4 _ _ _ rfl); have g19T1 := frozen_heap (T1.out.get 4 _ _ _ rfl) 19; have S2 : Hid (Fm w [(w.heap.size, cpC c, 26), (w.heap.size + 1, pnC { p with Mode := 0 }, 30), (v4.heap.size, cpC N, 26), (v7.heap.size, dvC D, 37), (y9.heap.size, cpC { c with T := V, P := 1, X := 2 }, 26)] (z1.setCell ⟨y9.heap.size, 19, none⟩ (.int .u8 2))) := T1.out.setCell 4 _ _ _ _ rfl 19 _ (cpC_setX { c with T := V, P := 1 } 2))
    | (refine gen_world (z1.setCell ⟨y9.heap.size, 19, none⟩ (.int .u8 2)) (Fm w [(w.heap.size, cpC c, 26), (w.heap.size + 1, pnC { p with Mode := 0 }, 30), (v4.heap.size, cpC N, 26), (v7.heap.size, dvC D, 37), (y9.heap.size, cpC { c with T := V, P := 1, X := 2 }, 26)]) S2.out ?_; intro z2 T2; have x21T2 := BoxC.fIE (T2.out.get 4 _ _ _ rfl); have g21T2 := frozen_heap (T2.out.get 4 _ _ _ rfl) 21; have S3 : Hid (Fm w [(w.heap.size, cpC c, 26), (w.heap.size + 1, pnC { p with Mode := 0 }, 30), (v4.heap.size, cpC N, 26), (v7.heap.size, dvC D, 37), (y9.heap.size, cpC { c with T := V, P := 1, X := 2, IE := false }, 26)] (z2.setCell ⟨y9.heap.size, 21, none⟩ (.bool false))) := T2.out.setCell 4 _ _ _ _ rfl 21 _ (cpC_setIE { c with T := V, P := 1, X := 2 } false))
    | (refine gen_world (z2.setCell ⟨y9.heap.size, 21, none⟩ (.bool false)) (Fm w [(w.heap.size, cpC c, 26), (w.heap.size + 1, pnC { p with Mode := 0 }, 30), (v4.heap.size, cpC N, 26), (v7.heap.size, dvC D, 37), (y9.heap.size, cpC { c with T := V, P := 1, X := 2, IE := false }, 26)]) S3.out ?_; intro z3 T3; have x25T3 := BoxC.fPh (T3.out.get 4 _ _ _ rfl); have g25T3 := frozen_heap (T3.out.get 4 _ _ _ rfl) 25; have m25 := BoxC.fPh (T3.out.get 2 _ _ _ rfl); have S4 : Hid (Fm w [(w.heap.size, cpC c, 26), (w.heap.size + 1, pnC { p with Mode := 0 }, 30), (v4.heap.size, cpC N, 26), (v7.heap.size, dvC D, 37), (y9.heap.size, cpC { c with T := V, P := 1, X := 2, IE := false, Ph := N.Ph }, 26)] (z3.setCell ⟨y9.heap.size, 25, none⟩ (.int .u8 (N.Ph : Int)))) := T3.out.setCell 4 _ _ _ _ rfl 25 _ (cpC_setPh { c with T := V, P := 1, X := 2, IE := false } N.Ph))
    | (refine at_loadC w.heap.size c (K9.out.get 0 _ _ _ rfl) _ rfl rfl rfl ?_)
    | (refine at_loadC w.heap.size c (K6.out.get 0 _ _ _ rfl) _ rfl rfl rfl ?_)
    | (refine at_loadC w.heap.size c (K4.out.get 0 _ _ _ rfl) _ rfl rfl rfl ?_)
    | (refine at_loadP (w.heap.size + 1) _ (K4.out.get 1 _ _ _ rfl) _ rfl rfl rfl ?_)
    | (refine at_loadC w.heap.size c (K1.out.get 0 _ _ _ rfl) _ rfl rfl rfl ?_))
  refine region_class_tail 13 (Fm w [(w.heap.size, cpC c, 26), (w.heap.size + 1, pnC { p with Mode := 0 }, 30), (v4.heap.size, cpC N, 26), (v7.heap.size, dvC D, 37), (y9.heap.size, cpC { c with T := V, P := 1, X := 2, IE := false, Ph := N.Ph }, 26)]) (by kernel_rfl) (by kernel_rfl) (S4.out.below (below_drew (Below.refl _ _))) ?_
  simp only [List.take_succ_cons, List.take_zero, List.drop_succ_cons, List.drop_zero]
  refine quiet_one (.agg (cpC N)) rfl (quiet_loadC v4.heap.size N (fun _ h => h.get 2 _ _ _ rfl) (.tmp 7) rfl (by go_simp)) ?_
  refine quiet_one (.agg (cpC { c with T := V, P := 1, X := 2, IE := false, Ph := N.Ph })) rfl (fun u hy => by
    generalize ha : Act.put _ _ _ = a
    have e11 : a.eval (.tmp 11) = .pointer (some ⟨y9.heap.size, 0, none⟩) := by rw [← ha]; go_simp
    clear ha
    exact quiet_loadC (C := Fm w [(w.heap.size, cpC c, 26), (w.heap.size + 1, pnC { p with Mode := 0 }, 30), (v4.heap.size, cpC N, 26), (v7.heap.size, dvC D, 37), (y9.heap.size, cpC { c with T := V, P := 1, X := 2, IE := false, Ph := N.Ph }, 26)]) y9.heap.size { c with T := V, P := 1, X := 2, IE := false, Ph := N.Ph } (fun _ h => h.get 4 _ _ _ rfl) (.tmp 11) rfl e11 u hy) ?_
  refine quiet_one (.bool false) rfl (fun u hy => by
    generalize ha : Act.put _ _ _ = a
    have e83 : a.eval (.tmp 83) = .agg (cpC N) := by rw [← ha]; go_simp
    have e84 : a.eval (.tmp 84) = .agg (cpC { c with T := V, P := 1, X := 2, IE := false, Ph := N.Ph }) := by rw [← ha]; go_simp
    clear ha
    exact quiet_neC (C := Fm w [(w.heap.size, cpC c, 26), (w.heap.size + 1, pnC { p with Mode := 0 }, 30), (v4.heap.size, cpC N, 26), (v7.heap.size, dvC D, 37), (y9.heap.size, cpC { c with T := V, P := 1, X := 2, IE := false, Ph := N.Ph }, 26)]) N { c with T := V, P := 1, X := 2, IE := false, Ph := N.Ph } hNe.out (.tmp 83) (.tmp 84) _ rfl e83 e84 u hy) ?_
  refine quiet_one (.bool false) rfl (fun u hy => by go_simp) ?_
  with_reducible refine quiet_one (.agg (dvC D)) ?_ ?_ ?_
  · kernel_rfl
  · intro u hy
    generalize ha : Act.put _ _ _ = a
    have e10 : a.eval (.tmp 10) = .pointer (some ⟨v7.heap.size, 0, none⟩) := by rw [← ha]; go_simp
    clear ha
    exact quiet_loadD (C := Fm w [(w.heap.size, cpC c, 26), (w.heap.size + 1, pnC { p with Mode := 0 }, 30), (v4.heap.size, cpC N, 26), (v7.heap.size, dvC D, 37), (y9.heap.size, cpC { c with T := V, P := 1, X := 2, IE := false, Ph := N.Ph }, 26)]) v7.heap.size D (fun _ h => h.get 3 _ _ _ rfl) (.tmp 10) rfl e10 u hy
  with_reducible refine quiet_one (.pointer (some ⟨w.heap.size, 23, none⟩)) ?_ ?_ ?_
  · kernel_rfl
  · intro u hy
    go_simp
  with_reducible refine quiet_one (.int .u8 o) ?_ ?_ ?_
  · kernel_rfl
  · intro u hy
    have d : u.cell? ⟨w.heap.size, 23, none⟩ = some (.int .u8 o) := by have := BoxC.fOp (hy.get 0 _ _ _ rfl); rw [ho.out] at this; exact this
    go_simp
  with_reducible refine quiet_one (.int .u8 (q : Int)) ?_ ?_ ?_
  · kernel_rfl
  · intro u hy
    go_simp
  with_reducible refine quiet_one (.pointer (some ⟨w.heap.size, 0, none⟩)) ?_ ?_ ?_
  · kernel_rfl
  · intro u hy
    go_simp
  with_reducible refine quiet_one (.pointer (some ⟨w.heap.size, q, none⟩)) ?_ ?_ ?_
  · kernel_rfl
  · intro u hy
    go_simp
  with_reducible refine quiet_one (.int .u16 (c.R q)) ?_ ?_ ?_
  · kernel_rfl
  · intro u hy
    have d := hR'.out _ _ (hy.get 0 _ _ _ rfl)
    go_simp
  with_reducible refine quiet_one (.agg (dvC D)) ?_ ?_ ?_
  · kernel_rfl
  · intro u hy
    generalize ha : Act.put _ _ _ = a
    have e93 : a.eval (.tmp 93) = .int .u16 (c.R q) := by rw [← ha]; go_simp
    have ec : ∀ v, a.eval (.const v) = v := fun _ => rfl
    clear ha
    exact quiet_buildD (C := Fm w [(w.heap.size, cpC c, 26), (w.heap.size + 1, pnC { p with Mode := 0 }, 30), (v4.heap.size, cpC N, 26), (v7.heap.size, dvC D, 37), (y9.heap.size, cpC { c with T := V, P := 1, X := 2, IE := false, Ph := N.Ph }, 26)]) _ [(0, .int .u8 3), (1, .int .u16 (c.R q)), (7, .bool true)] D rfl (by simp [e93, ec]) hbD.out u hy
  with_reducible refine quiet_one (.bool false) ?_ ?_ ?_
  · kernel_rfl
  · intro u hy
    generalize ha : Act.put _ _ _ = a
    have e87 : a.eval (.tmp 87) = .agg (dvC D) := by rw [← ha]; go_simp
    have e94 : a.eval (.tmp 94) = .agg (dvC D) := by rw [← ha]; go_simp
    clear ha
    exact quiet_neD (C := Fm w [(w.heap.size, cpC c, 26), (w.heap.size + 1, pnC { p with Mode := 0 }, 30), (v4.heap.size, cpC N, 26), (v7.heap.size, dvC D, 37), (y9.heap.size, cpC { c with T := V, P := 1, X := 2, IE := false, Ph := N.Ph }, 26)]) D D rfl (.tmp 87) (.tmp 94) _ rfl e87 e94 u hy
  refine wpQuiet_nil ?_
  intro y14 K15
  replace K15 : Hid _ := K15
  have c25 := BoxC.fPh (K15.out.get 0 _ _ _ rfl)
  rw [hph.out] at c25
  have c23 := BoxC.fOp (K15.out.get 0 _ _ _ rfl)
  rw [ho.out] at c23
  have k25 := BoxC.fPh (K15.out.get 2 _ _ _ rfl)
  rw [n1.out] at k25
  have k21 := BoxC.fIE (K15.out.get 2 _ _ _ rfl)
  have r6 : y14.cell? ⟨w.heap.size + 1, 6, none⟩ = some (.bool p.DI) := BoxP.fDI (p := { p with Mode := 0 }) (K15.out.get 1 _ _ _ rfl)
  have r7 : y14.cell? ⟨w.heap.size + 1, 7, none⟩ = some (.bool p.DO) := BoxP.fDO (p := { p with Mode := 0 }) (K15.out.get 1 _ _ _ rfl)
  have r8 : y14.cell? ⟨w.heap.size + 1, 8, none⟩ = some (.bool p.Int_) := BoxP.fInt (p := { p with Mode := 0 }) (K15.out.get 1 _ _ _ rfl)
  rw [l1.out] at r6
  rw [l2.out] at r7
  rw [l3.out] at r8
  rw [l4.out] at k21
  go_simp
  go_wp2
  all_goals go_ret
  all_goals exact ⟨by first | rfl | simp, K15.out.low⟩

theorem asked_8ie (w : World) (c : Cp) (hc : c.wf) (p : Pn) (hp : p.wf) (tb : Tabs w) (hch : checkB c = true) (N : Cp) (hN : goOnM c { p with Mode := 0 } = N) (h : c.Ph = 8) (l1 : p.DI = false) (l2 : p.DO = false) (l3 : p.Int_ = true) (l4 : N.IE = false) (hPh : N.Ph = 1) : Calls Tryd.prog 5 #[.agg (cpC c), .agg (pnC p)] w fun e w' => e = .returned (.bool true) ∧ Below w.heap.size w w' := by
  have hA := fun v t => lawake v t
  have hM := fun v => lmay v c hc
  rw [hch] at hM
  have hS := fun v t => ystep v c hc { p with Mode := 0 } (pn_wf0 hp) t
  rw [step_run p hch, hN] at hS
  have hD := fun v t => ydrive v c hc t 0 (by decide)
  have zz := zeroVC
  have zd := zeroVD
  have tb' : Hid (Tabs w) := tb
  have hF : Hid (Fm w [(w.heap.size, cpC c, 26), (w.heap.size + 1, pnC p, 30)] ((w.alloc (.cells (cpC c) 26)).alloc (.cells (pnC p) 30))) := Fm.two w c p
  obtain ⟨o, ho⟩ : ∃ o : Int, (c.Op : Int) = o := ⟨_, rfl⟩
  have hph : (c.Ph : Int) = 8 := by omega
  have n1 : (N.Ph : Int) = 1 := by omega
  have hm := (checkB_iff c).1 hch
  have hP : c.P < 16 := by have := hm.1; omega
  have hX : c.X < 16 := by have := hm.2.1; omega
  obtain ⟨q, hq⟩ : ∃ q, c.Op % 16 = q := ⟨_, rfl⟩
  have hq16 : q < 16 := by omega
  have hl : bits .and .u8 o 15 = (q : Int) := by rw [← ho, low4 c.Op hc.Op]; omega
  have hDe : driveM c 0 = (⟨3, c.R q, false, false, false, 0, 0, true⟩ : Dv) := by unfold driveM runM; rw [if_pos hch]; simp only [h]; rw [hq]; rfl
  rw [hDe] at hD
  obtain ⟨V, hV⟩ : ∃ V, 16 * (c.X : Int) + (c.P : Int) = V := ⟨_, rfl⟩
  have v1' : IntKind.u8.wrap (16 * (c.X : Int)) = 16 * (c.X : Int) := by rw [IntKind.wrap_u8]; omega
  have v2' : IntKind.u8.wrap (16 * (c.X : Int) + (c.P : Int)) = V := by rw [IntKind.wrap_u8]; omega
  have hNe : Hid (cpC N = cpC { c with T := V, P := 1, X := 2, IE := false, Ph := N.Ph }) := by rw [show (Hid (cpC N = cpC { c with T := V, P := 1, X := 2, IE := false, Ph := N.Ph })) = (cpC N = cpC { c with T := V, P := 1, X := 2, IE := false, Ph := N.Ph }) from rfl, ← hN, ← hV]; unfold goOnM; simp only [h]
  obtain ⟨D, hDD⟩ : ∃ D : Dv, (⟨3, c.R q, false, false, false, 0, 0, true⟩ : Dv) = D := ⟨_, rfl⟩
  rw [hDD] at hD
  have hbD : Hid (Tryd.prog.built 37 [(0, .int .u8 3), (1, .int .u16 (c.R q)), (7, .bool true)] = some (dvC D)) := by rw [← hDD]; exact (by kernel_rfl : Tryd.prog.built 37 [(0, .int .u8 3), (1, .int .u16 (c.R q)), (7, .bool true)] = some (dvC (⟨3, c.R q, false, false, false, 0, 0, true⟩ : Dv)))
  have ix := fun v => idx (g := w.heap.size) (off := 0) (N := 16) Tryd.underlying23 infoR .u8 q v hq16
  simp only [Nat.zero_add, Nat.mul_one] at ix
  have hR' : Hid (∀ b x, BoxC x b c → x.cell? ⟨b, q, none⟩ = some (.int .u16 (c.R q))) := fun b x h => h.r q hq16
  replace ho : Hid _ := ho
  replace hph : Hid _ := hph
  replace n1 : Hid _ := n1
  replace l1 : Hid _ := l1
  replace l2 : Hid _ := l2
  replace l3 : Hid _ := l3
  replace l4 : Hid _ := l4
  clear hc hp tb hch hN h hPh hDe hDD hm hP hX hq hq16 hV
  go_enter Tryd.func5, Tryd.ntmps5
  go_wp2_with (first
    | (refine gen_world ((w.alloc (.cells (cpC c) 26)).alloc (.cells (pnC p) 30)) (Fm w [(w.heap.size, cpC c, 26), (w.heap.size + 1, pnC p, 30)]) hF.out ?_; intro y K0)
    | (go_at_call 12; refine (hA _ (tb'.out.below K0.out.low)).mono ?_; rintro e v1 ⟨rfl, hb1⟩; have K1 : Hid _ := K0.out.below hb1)
    | (go_at_call 8; refine (hM _).mono ?_; rintro e v2 ⟨rfl, hb2⟩; have K2 : Hid _ := K1.out.below hb2; have dM := BoxP.fMode (K2.out.get 1 _ _ _ rfl); have fM := frozen_heap (K2.out.get 1 _ _ _ rfl) 0; have K3 : Hid (Fm w [(w.heap.size, cpC c, 26), (w.heap.size + 1, pnC { p with Mode := 0 }, 30)] (v2.setCell ⟨w.heap.size + 1, 0, none⟩ (.int .u8 0))) := K2.out.setCell 1 _ _ _ _ rfl 0 _ rfl)
    | (refine gen_world (v2.setCell ⟨w.heap.size + 1, 0, none⟩ (.int .u8 0)) (Fm w [(w.heap.size, cpC c, 26), (w.heap.size + 1, pnC { p with Mode := 0 }, 30)]) K3.out ?_; intro y3 K4)
    | (go_at_call 10; refine (hS _ (tb'.out.below K4.out.low)).mono ?_; rintro e v4 ⟨rfl, hb4⟩; have K5 : Hid _ := K4.out.below hb4)
    | (refine gen_world (v4.alloc (.cells (cpC zeroC) 26)) (Fm w [(w.heap.size, cpC c, 26), (w.heap.size + 1, pnC { p with Mode := 0 }, 30), (v4.heap.size, cpC zeroC, 26)]) (K5.out.new _ _) ?_; intro y5 K55)
    | (refine at_storeC v4.heap.size zeroC N (K55.out.get 2 _ _ _ rfl) _ _ rfl rfl rfl rfl ?_; intro y6 hw6; have K6 : Hid (Fm w [(w.heap.size, cpC c, 26), (w.heap.size + 1, pnC { p with Mode := 0 }, 30), (v4.heap.size, cpC N, 26)] y6) := K55.out.put 2 _ _ _ _ rfl hw6.out; have d25 := BoxC.fPh (K6.out.get 0 _ _ _ rfl); have d23 := BoxC.fOp (K6.out.get 0 _ _ _ rfl); rw [ho.out] at d23; have n25 := BoxC.fPh (K6.out.get 2 _ _ _ rfl); have n21 := BoxC.fIE (K6.out.get 2 _ _ _ rfl); have n23 := BoxC.fOp (K6.out.get 2 _ _ _ rfl); have p1 : y6.cell? ⟨w.heap.size + 1, 1, none⟩ = some (.int .u8 p.Data) := BoxP.fData (p := { p with Mode := 0 }) (K6.out.get 1 _ _ _ rfl); have p6 : y6.cell? ⟨w.heap.size + 1, 6, none⟩ = some (.bool p.DI) := BoxP.fDI (p := { p with Mode := 0 }) (K6.out.get 1 _ _ _ rfl); have p7 : y6.cell? ⟨w.heap.size + 1, 7, none⟩ = some (.bool p.DO) := BoxP.fDO (p := { p with Mode := 0 }) (K6.out.get 1 _ _ _ rfl); have p8 : y6.cell? ⟨w.heap.size + 1, 8, none⟩ = some (.bool p.Int_) := BoxP.fInt (p := { p with Mode := 0 }) (K6.out.get 1 _ _ _ rfl); rw [hph.out] at d25)
    | (go_at_call 11; refine (hD _ (tb'.out.below K6.out.low)).mono ?_; rintro e v7 ⟨rfl, hb7⟩; have K7 : Hid _ := K6.out.below hb7)
    | (refine gen_world (v7.alloc (.cells (dvC zeroD) 37)) (Fm w [(w.heap.size, cpC c, 26), (w.heap.size + 1, pnC { p with Mode := 0 }, 30), (v4.heap.size, cpC N, 26), (v7.heap.size, dvC zeroD, 37)]) (K7.out.new _ _) ?_; intro y8 K8)
    | (refine at_storeD v7.heap.size zeroD D (K8.out.get 3 _ _ _ rfl) _ _ rfl rfl rfl rfl ?_; intro y9 hw9; have K9 : Hid (Fm w [(w.heap.size, cpC c, 26), (w.heap.size + 1, pnC { p with Mode := 0 }, 30), (v4.heap.size, cpC N, 26), (v7.heap.size, dvC D, 37)] y9) := K8.out.put 3 _ _ _ _ rfl hw9.out)
    | (refine gen_world (y9.alloc (.cells (cpC zeroC) 26)) (Fm w [(w.heap.size, cpC c, 26), (w.heap.size + 1, pnC { p with Mode := 0 }, 30), (v4.heap.size, cpC N, 26), (v7.heap.size, dvC D, 37), (y9.heap.size, cpC zeroC, 26)]) (K9.out.new _ _) ?_; intro y10 K10)
    | (refine at_storeC y9.heap.size zeroC c (K10.out.get 4 _ _ _ rfl) _ _ rfl rfl rfl rfl ?_; intro y11 hw11; have K11 : Hid (Fm w [(w.heap.size, cpC c, 26), (w.heap.size + 1, pnC { p with Mode := 0 }, 30), (v4.heap.size, cpC N, 26), (v7.heap.size, dvC D, 37), (y9.heap.size, cpC c, 26)] y11) := K10.out.put 4 _ _ _ _ rfl hw11.out; have cX := BoxC.fX (K11.out.get 0 _ _ _ rfl); have cP := BoxC.fP (K11.out.get 0 _ _ _ rfl); have x20K11 := BoxC.fT (K11.out.get 4 _ _ _ rfl); have g20K11 := frozen_heap (K11.out.get 4 _ _ _ rfl) 20; have S0 : Hid (Fm w [(w.heap.size, cpC c, 26), (w.heap.size + 1, pnC { p with Mode := 0 }, 30), (v4.heap.size, cpC N, 26), (v7.heap.size, dvC D, 37), (y9.heap.size, cpC { c with T := V }, 26)] (y11.setCell ⟨y9.heap.size, 20, none⟩ (.int .u8 V))) := K11.out.setCell 4 _ _ _ _ rfl 20 _ (cpC_setT c V))
    | (refine gen_world (y11.setCell ⟨y9.heap.size, 20, none⟩ (.int .u8 V)) (Fm w [(w.heap.size, cpC c, 26), (w.heap.size + 1, pnC { p with Mode := 0 }, 30), (v4.heap.size, cpC N, 26), (v7.heap.size, dvC D, 37), (y9.heap.size, cpC { c with T := V }, 26)]) S0.out ?_; intro z0 T0; have x18T0 := BoxC.fP (T0.out.get 4 _ _ _ rfl); have g18T0 := frozen_heap (T0.out.get 4 _ _ _ rfl) 18; have S1 : Hid (Fm w [(w.heap.size, cpC c, 26), (w.heap.size + 1, pnC { p with Mode := 0 }, 30), (v4.heap.size, cpC N, 26), (v7.heap.size, dvC D, 37), (y9.heap.size, cpC { c with T := V, P := 1 }, 26)] (z0.setCell ⟨y9.heap.size, 18, none⟩ (.int .u8 1))) := T0.out.setCell 4 _ _ _ _ rfl 18 _ (cpC_setP { c with T := V } 1))
    | (refine gen_world (z0.setCell ⟨y9.heap.size, 18, none⟩ (.int .u8 1)) (Fm w [(w.heap.size, cpC c, 26), (w.heap.size + 1, pnC { p with Mode := 0 }, 30), (v4.heap.size, cpC N, 26), (v7.heap.size, dvC D, 37), (y9.heap.size, cpC { c with T := V, P := 1 }, 26)]) S1.out ?_; intro z1 T1; have x19T1 := BoxC.fX (T1.out.get 4 _ _ _ rfl); have g19T1 := frozen_heap (T1.out.get 4 _ _ _ rfl) 19; have S2 : Hid (Fm w [(w.heap.size, cpC c, 26), (w.heap.size + 1, pnC { p with Mode := 0 }, 30), (v4.heap.size, cpC N, 26), (v7.heap.size, dvC D, 37), (y9.heap.size, cpC { c with T := V, P := 1, X := 2 }, 26)] (z1.setCell ⟨y9.heap.size, 19, none⟩ (.int .u8 2))) := T1.out.setCell 4 _ _ _ _ rfl 19 _ (cpC_setX { c with T := V, P := 1 } 2))
    | (refine gen_world (z1.setCell ⟨y9.heap.size, 19, none⟩ (.int .u8 2)) (Fm w [(w.heap.size, cpC c, 26), (w.heap.size + 1, pnC { p with Mode := 0 }, 30), (v4.heap.size, cpC N, 26), (v7.heap.size, dvC D, 37), (y9.heap.size, cpC { c with T := V, P := 1, X := 2 }, 26)]) S2.out ?_; intro z2 T2; have x21T2 := BoxC.fIE (T2.out.get 4 _ _ _ rfl); have g21T2 := frozen_heap (T2.out.get 4 _ _ _ rfl) 21; have S3 : Hid (Fm w [(w.heap.size, cpC c, 26), (w.heap.size + 1, pnC { p with Mode := 0 }, 30), (v4.heap.size, cpC N, 26), (v7.heap.size, dvC D, 37), (y9.heap.size, cpC { c with T := V, P := 1, X := 2, IE := false }, 26)] (z2.setCell ⟨y9.heap.size, 21, none⟩ (.bool false))) := T2.out.setCell 4 _ _ _ _ rfl 21 _ (cpC_setIE { c with T := V, P := 1, X := 2 } false))
    | (refine gen_world (z2.setCell ⟨y9.heap.size, 21, none⟩ (.bool false)) (Fm w [(w.heap.size, cpC c, 26), (w.heap.size + 1, pnC { p with Mode := 0 }, 30), (v4.heap.size, cpC N, 26), (v7.heap.size, dvC D, 37), (y9.heap.size, cpC { c with T := V, P := 1, X := 2, IE := false }, 26)]) S3.out ?_; intro z3 T3; have x25T3 := BoxC.fPh (T3.out.get 4 _ _ _ rfl); have g25T3 := frozen_heap (T3.out.get 4 _ _ _ rfl) 25; have m25 := BoxC.fPh (T3.out.get 2 _ _ _ rfl); have S4 : Hid (Fm w [(w.heap.size, cpC c, 26), (w.heap.size + 1, pnC { p with Mode := 0 }, 30), (v4.heap.size, cpC N, 26), (v7.heap.size, dvC D, 37), (y9.heap.size, cpC { c with T := V, P := 1, X := 2, IE := false, Ph := N.Ph }, 26)] (z3.setCell ⟨y9.heap.size, 25, none⟩ (.int .u8 (N.Ph : Int)))) := T3.out.setCell 4 _ _ _ _ rfl 25 _ (cpC_setPh { c with T := V, P := 1, X := 2, IE := false } N.Ph))
    | (refine at_loadC w.heap.size c (K9.out.get 0 _ _ _ rfl) _ rfl rfl rfl ?_)
    | (refine at_loadC w.heap.size c (K6.out.get 0 _ _ _ rfl) _ rfl rfl rfl ?_)
    | (refine at_loadC w.heap.size c (K4.out.get 0 _ _ _ rfl) _ rfl rfl rfl ?_)
    | (refine at_loadP (w.heap.size + 1) _ (K4.out.get 1 _ _ _ rfl) _ rfl rfl rfl ?_)
    | (refine at_loadC w.heap.size c (K1.out.get 0 _ _ _ rfl) _ rfl rfl rfl ?_))
  refine region_class_tail 13 (Fm w [(w.heap.size, cpC c, 26), (w.heap.size + 1, pnC { p with Mode := 0 }, 30), (v4.heap.size, cpC N, 26), (v7.heap.size, dvC D, 37), (y9.heap.size, cpC { c with T := V, P := 1, X := 2, IE := false, Ph := N.Ph }, 26)]) (by kernel_rfl) (by kernel_rfl) (S4.out.below (below_drew (Below.refl _ _))) ?_
  simp only [List.take_succ_cons, List.take_zero, List.drop_succ_cons, List.drop_zero]
  refine quiet_one (.agg (cpC N)) rfl (quiet_loadC v4.heap.size N (fun _ h => h.get 2 _ _ _ rfl) (.tmp 7) rfl (by go_simp)) ?_
  refine quiet_one (.agg (cpC { c with T := V, P := 1, X := 2, IE := false, Ph := N.Ph })) rfl (fun u hy => by
    generalize ha : Act.put _ _ _ = a
    have e11 : a.eval (.tmp 11) = .pointer (some ⟨y9.heap.size, 0, none⟩) := by rw [← ha]; go_simp
    clear ha
    exact quiet_loadC (C := Fm w [(w.heap.size, cpC c, 26), (w.heap.size + 1, pnC { p with Mode := 0 }, 30), (v4.heap.size, cpC N, 26), (v7.heap.size, dvC D, 37), (y9.heap.size, cpC { c with T := V, P := 1, X := 2, IE := false, Ph := N.Ph }, 26)]) y9.heap.size { c with T := V, P := 1, X := 2, IE := false, Ph := N.Ph } (fun _ h => h.get 4 _ _ _ rfl) (.tmp 11) rfl e11 u hy) ?_
  refine quiet_one (.bool false) rfl (fun u hy => by
    generalize ha : Act.put _ _ _ = a
    have e83 : a.eval (.tmp 83) = .agg (cpC N) := by rw [← ha]; go_simp
    have e84 : a.eval (.tmp 84) = .agg (cpC { c with T := V, P := 1, X := 2, IE := false, Ph := N.Ph }) := by rw [← ha]; go_simp
    clear ha
    exact quiet_neC (C := Fm w [(w.heap.size, cpC c, 26), (w.heap.size + 1, pnC { p with Mode := 0 }, 30), (v4.heap.size, cpC N, 26), (v7.heap.size, dvC D, 37), (y9.heap.size, cpC { c with T := V, P := 1, X := 2, IE := false, Ph := N.Ph }, 26)]) N { c with T := V, P := 1, X := 2, IE := false, Ph := N.Ph } hNe.out (.tmp 83) (.tmp 84) _ rfl e83 e84 u hy) ?_
  refine quiet_one (.bool false) rfl (fun u hy => by go_simp) ?_
  with_reducible refine quiet_one (.agg (dvC D)) ?_ ?_ ?_
  · kernel_rfl
  · intro u hy
    generalize ha : Act.put _ _ _ = a
    have e10 : a.eval (.tmp 10) = .pointer (some ⟨v7.heap.size, 0, none⟩) := by rw [← ha]; go_simp
    clear ha
    exact quiet_loadD (C := Fm w [(w.heap.size, cpC c, 26), (w.heap.size + 1, pnC { p with Mode := 0 }, 30), (v4.heap.size, cpC N, 26), (v7.heap.size, dvC D, 37), (y9.heap.size, cpC { c with T := V, P := 1, X := 2, IE := false, Ph := N.Ph }, 26)]) v7.heap.size D (fun _ h => h.get 3 _ _ _ rfl) (.tmp 10) rfl e10 u hy
  with_reducible refine quiet_one (.pointer (some ⟨w.heap.size, 23, none⟩)) ?_ ?_ ?_
  · kernel_rfl
  · intro u hy
    go_simp
  with_reducible refine quiet_one (.int .u8 o) ?_ ?_ ?_
  · kernel_rfl
  · intro u hy
    have d : u.cell? ⟨w.heap.size, 23, none⟩ = some (.int .u8 o) := by have := BoxC.fOp (hy.get 0 _ _ _ rfl); rw [ho.out] at this; exact this
    go_simp
  with_reducible refine quiet_one (.int .u8 (q : Int)) ?_ ?_ ?_
  · kernel_rfl
  · intro u hy
    go_simp
  with_reducible refine quiet_one (.pointer (some ⟨w.heap.size, 0, none⟩)) ?_ ?_ ?_
  · kernel_rfl
  · intro u hy
    go_simp
  with_reducible refine quiet_one (.pointer (some ⟨w.heap.size, q, none⟩)) ?_ ?_ ?_
  · kernel_rfl
  · intro u hy
    go_simp
  with_reducible refine quiet_one (.int .u16 (c.R q)) ?_ ?_ ?_
  · kernel_rfl
  · intro u hy
    have d := hR'.out _ _ (hy.get 0 _ _ _ rfl)
    go_simp
  with_reducible refine quiet_one (.agg (dvC D)) ?_ ?_ ?_
  · kernel_rfl
  · intro u hy
    generalize ha : Act.put _ _ _ = a
    have e93 : a.eval (.tmp 93) = .int .u16 (c.R q) := by rw [← ha]; go_simp
    have ec : ∀ v, a.eval (.const v) = v := fun _ => rfl
    clear ha
    exact quiet_buildD (C := Fm w [(w.heap.size, cpC c, 26), (w.heap.size + 1, pnC { p with Mode := 0 }, 30), (v4.heap.size, cpC N, 26), (v7.heap.size, dvC D, 37), (y9.heap.size, cpC { c with T := V, P := 1, X := 2, IE := false, Ph := N.Ph }, 26)]) _ [(0, .int .u8 3), (1, .int .u16 (c.R q)), (7, .bool true)] D rfl (by simp [e93, ec]) hbD.out u hy
  with_reducible refine quiet_one (.bool false) ?_ ?_ ?_
  · kernel_rfl
  · intro u hy
    generalize ha : Act.put _ _ _ = a
    have e87 : a.eval (.tmp 87) = .agg (dvC D) := by rw [← ha]; go_simp
    have e94 : a.eval (.tmp 94) = .agg (dvC D) := by rw [← ha]; go_simp
    clear ha
    exact quiet_neD (C := Fm w [(w.heap.size, cpC c, 26), (w.heap.size + 1, pnC { p with Mode := 0 }, 30), (v4.heap.size, cpC N, 26), (v7.heap.size, dvC D, 37), (y9.heap.size, cpC { c with T := V, P := 1, X := 2, IE := false, Ph := N.Ph }, 26)]) D D rfl (.tmp 87) (.tmp 94) _ rfl e87 e94 u hy
  refine wpQuiet_nil ?_
  intro y14 K15
  replace K15 : Hid _ := K15
  have c25 := BoxC.fPh (K15.out.get 0 _ _ _ rfl)
  rw [hph.out] at c25
  have c23 := BoxC.fOp (K15.out.get 0 _ _ _ rfl)
  rw [ho.out] at c23
  have k25 := BoxC.fPh (K15.out.get 2 _ _ _ rfl)
  rw [n1.out] at k25
  have k21 := BoxC.fIE (K15.out.get 2 _ _ _ rfl)
  have r6 : y14.cell? ⟨w.heap.size + 1, 6, none⟩ = some (.bool p.DI) := BoxP.fDI (p := { p with Mode := 0 }) (K15.out.get 1 _ _ _ rfl)
  have r7 : y14.cell? ⟨w.heap.size + 1, 7, none⟩ = some (.bool p.DO) := BoxP.fDO (p := { p with Mode := 0 }) (K15.out.get 1 _ _ _ rfl)
  have r8 : y14.cell? ⟨w.heap.size + 1, 8, none⟩ = some (.bool p.Int_) := BoxP.fInt (p := { p with Mode := 0 }) (K15.out.get 1 _ _ _ rfl)
  rw [l1.out] at r6
  rw [l2.out] at r7
  rw [l3.out] at r8
  rw [l4.out] at k21
  go_simp
  go_wp2
  all_goals go_ret
  all_goals exact ⟨by first | rfl | simp, K15.out.low⟩

theorem asked_8no (w : World) (c : Cp) (hc : c.wf) (p : Pn) (hp : p.wf) (tb : Tabs w) (hch : checkB c = true) (N : Cp) (hN : goOnM c { p with Mode := 0 } = N) (h : c.Ph = 8) (l1 : p.DI = false) (l2 : p.DO = false) (l3 : p.Int_ = false) (hPh : N.Ph = 1) : Calls Tryd.prog 5 #[.agg (cpC c), .agg (pnC p)] w fun e w' => e = .returned (.bool true) ∧ Below w.heap.size w w' := by
  have hA := fun v t => lawake v t
  have hM := fun v => lmay v c hc
  rw [hch] at hM
  have hS := fun v t => ystep v c hc { p with Mode := 0 } (pn_wf0 hp) t
  rw [step_run p hch, hN] at hS
  have hD := fun v t => ydrive v c hc t 0 (by decide)
  have zz := zeroVC
  have zd := zeroVD
  have tb' : Hid (Tabs w) := tb
  have hF : Hid (Fm w [(w.heap.size, cpC c, 26), (w.heap.size + 1, pnC p, 30)] ((w.alloc (.cells (cpC c) 26)).alloc (.cells (pnC p) 30))) := Fm.two w c p
  obtain ⟨o, ho⟩ : ∃ o : Int, (c.Op : Int) = o := ⟨_, rfl⟩
  have hph : (c.Ph : Int) = 8 := by omega
  have n1 : (N.Ph : Int) = 1 := by omega
  have hm := (checkB_iff c).1 hch
  have hP : c.P < 16 := by have := hm.1; omega
  have hX : c.X < 16 := by have := hm.2.1; omega
  obtain ⟨q, hq⟩ : ∃ q, c.Op % 16 = q := ⟨_, rfl⟩
  have hq16 : q < 16 := by omega
  have hl : bits .and .u8 o 15 = (q : Int) := by rw [← ho, low4 c.Op hc.Op]; omega
  have hDe : driveM c 0 = (⟨3, c.R q, false, false, false, 0, 0, true⟩ : Dv) := by unfold driveM runM; rw [if_pos hch]; simp only [h]; rw [hq]; rfl
  rw [hDe] at hD
  obtain ⟨V, hV⟩ : ∃ V, 16 * (c.X : Int) + (c.P : Int) = V := ⟨_, rfl⟩
  have v1' : IntKind.u8.wrap (16 * (c.X : Int)) = 16 * (c.X : Int) := by rw [IntKind.wrap_u8]; omega
  have v2' : IntKind.u8.wrap (16 * (c.X : Int) + (c.P : Int)) = V := by rw [IntKind.wrap_u8]; omega
  have hNe : Hid (cpC N = cpC { c with T := V, P := 1, X := 2, IE := false, Ph := N.Ph }) := by rw [show (Hid (cpC N = cpC { c with T := V, P := 1, X := 2, IE := false, Ph := N.Ph })) = (cpC N = cpC { c with T := V, P := 1, X := 2, IE := false, Ph := N.Ph }) from rfl, ← hN, ← hV]; unfold goOnM; simp only [h]
  obtain ⟨D, hDD⟩ : ∃ D : Dv, (⟨3, c.R q, false, false, false, 0, 0, true⟩ : Dv) = D := ⟨_, rfl⟩
  rw [hDD] at hD
  have hbD : Hid (Tryd.prog.built 37 [(0, .int .u8 3), (1, .int .u16 (c.R q)), (7, .bool true)] = some (dvC D)) := by rw [← hDD]; exact (by kernel_rfl : Tryd.prog.built 37 [(0, .int .u8 3), (1, .int .u16 (c.R q)), (7, .bool true)] = some (dvC (⟨3, c.R q, false, false, false, 0, 0, true⟩ : Dv)))
  have ix := fun v => idx (g := w.heap.size) (off := 0) (N := 16) Tryd.underlying23 infoR .u8 q v hq16
  simp only [Nat.zero_add, Nat.mul_one] at ix
  have hR' : Hid (∀ b x, BoxC x b c → x.cell? ⟨b, q, none⟩ = some (.int .u16 (c.R q))) := fun b x h => h.r q hq16
  replace ho : Hid _ := ho
  replace hph : Hid _ := hph
  replace n1 : Hid _ := n1
  replace l1 : Hid _ := l1
  replace l2 : Hid _ := l2
  replace l3 : Hid _ := l3
  clear hc hp tb hch hN h hPh hDe hDD hm hP hX hq hq16 hV
  go_enter Tryd.func5, Tryd.ntmps5
  go_wp2_with (first
    | (refine gen_world ((w.alloc (.cells (cpC c) 26)).alloc (.cells (pnC p) 30)) (Fm w [(w.heap.size, cpC c, 26), (w.heap.size + 1, pnC p, 30)]) hF.out ?_; intro y K0)
    | (go_at_call 12; refine (hA _ (tb'.out.below K0.out.low)).mono ?_; rintro e v1 ⟨rfl, hb1⟩; have K1 : Hid _ := K0.out.below hb1)
    | (go_at_call 8; refine (hM _).mono ?_; rintro e v2 ⟨rfl, hb2⟩; have K2 : Hid _ := K1.out.below hb2; have dM := BoxP.fMode (K2.out.get 1 _ _ _ rfl); have fM := frozen_heap (K2.out.get 1 _ _ _ rfl) 0; have K3 : Hid (Fm w [(w.heap.size, cpC c, 26), (w.heap.size + 1, pnC { p with Mode := 0 }, 30)] (v2.setCell ⟨w.heap.size + 1, 0, none⟩ (.int .u8 0))) := K2.out.setCell 1 _ _ _ _ rfl 0 _ rfl)
    | (refine gen_world (v2.setCell ⟨w.heap.size + 1, 0, none⟩ (.int .u8 0)) (Fm w [(w.heap.size, cpC c, 26), (w.heap.size + 1, pnC { p with Mode := 0 }, 30)]) K3.out ?_; intro y3 K4)
    | (go_at_call 10; refine (hS _ (tb'.out.below K4.out.low)).mono ?_; rintro e v4 ⟨rfl, hb4⟩; have K5 : Hid _ := K4.out.below hb4)
    | (refine gen_world (v4.alloc (.cells (cpC zeroC) 26)) (Fm w [(w.heap.size, cpC c, 26), (w.heap.size + 1, pnC { p with Mode := 0 }, 30), (v4.heap.size, cpC zeroC, 26)]) (K5.out.new _ _) ?_; intro y5 K55)
    | (refine at_storeC v4.heap.size zeroC N (K55.out.get 2 _ _ _ rfl) _ _ rfl rfl rfl rfl ?_; intro y6 hw6; have K6 : Hid (Fm w [(w.heap.size, cpC c, 26), (w.heap.size + 1, pnC { p with Mode := 0 }, 30), (v4.heap.size, cpC N, 26)] y6) := K55.out.put 2 _ _ _ _ rfl hw6.out; have d25 := BoxC.fPh (K6.out.get 0 _ _ _ rfl); have d23 := BoxC.fOp (K6.out.get 0 _ _ _ rfl); rw [ho.out] at d23; have n25 := BoxC.fPh (K6.out.get 2 _ _ _ rfl); have n21 := BoxC.fIE (K6.out.get 2 _ _ _ rfl); have n23 := BoxC.fOp (K6.out.get 2 _ _ _ rfl); have p1 : y6.cell? ⟨w.heap.size + 1, 1, none⟩ = some (.int .u8 p.Data) := BoxP.fData (p := { p with Mode := 0 }) (K6.out.get 1 _ _ _ rfl); have p6 : y6.cell? ⟨w.heap.size + 1, 6, none⟩ = some (.bool p.DI) := BoxP.fDI (p := { p with Mode := 0 }) (K6.out.get 1 _ _ _ rfl); have p7 : y6.cell? ⟨w.heap.size + 1, 7, none⟩ = some (.bool p.DO) := BoxP.fDO (p := { p with Mode := 0 }) (K6.out.get 1 _ _ _ rfl); have p8 : y6.cell? ⟨w.heap.size + 1, 8, none⟩ = some (.bool p.Int_) := BoxP.fInt (p := { p with Mode := 0 }) (K6.out.get 1 _ _ _ rfl); rw [hph.out] at d25)
    | (go_at_call 11; refine (hD _ (tb'.out.below K6.out.low)).mono ?_; rintro e v7 ⟨rfl, hb7⟩; have K7 : Hid _ := K6.out.below hb7)
    | (refine gen_world (v7.alloc (.cells (dvC zeroD) 37)) (Fm w [(w.heap.size, cpC c, 26), (w.heap.size + 1, pnC { p with Mode := 0 }, 30), (v4.heap.size, cpC N, 26), (v7.heap.size, dvC zeroD, 37)]) (K7.out.new _ _) ?_; intro y8 K8)
    | (refine at_storeD v7.heap.size zeroD D (K8.out.get 3 _ _ _ rfl) _ _ rfl rfl rfl rfl ?_; intro y9 hw9; have K9 : Hid (Fm w [(w.heap.size, cpC c, 26), (w.heap.size + 1, pnC { p with Mode := 0 }, 30), (v4.heap.size, cpC N, 26), (v7.heap.size, dvC D, 37)] y9) := K8.out.put 3 _ _ _ _ rfl hw9.out)
    | (refine gen_world (y9.alloc (.cells (cpC zeroC) 26)) (Fm w [(w.heap.size, cpC c, 26), (w.heap.size + 1, pnC { p with Mode := 0 }, 30), (v4.heap.size, cpC N, 26), (v7.heap.size, dvC D, 37), (y9.heap.size, cpC zeroC, 26)]) (K9.out.new _ _) ?_; intro y10 K10)
    | (refine at_storeC y9.heap.size zeroC c (K10.out.get 4 _ _ _ rfl) _ _ rfl rfl rfl rfl ?_; intro y11 hw11; have K11 : Hid (Fm w [(w.heap.size, cpC c, 26), (w.heap.size + 1, pnC { p with Mode := 0 }, 30), (v4.heap.size, cpC N, 26), (v7.heap.size, dvC D, 37), (y9.heap.size, cpC c, 26)] y11) := K10.out.put 4 _ _ _ _ rfl hw11.out; have cX := BoxC.fX (K11.out.get 0 _ _ _ rfl); have cP := BoxC.fP (K11.out.get 0 _ _ _ rfl); have x20K11 := BoxC.fT (K11.out.get 4 _ _ _ rfl); have g20K11 := frozen_heap (K11.out.get 4 _ _ _ rfl) 20; have S0 : Hid (Fm w [(w.heap.size, cpC c, 26), (w.heap.size + 1, pnC { p with Mode := 0 }, 30), (v4.heap.size, cpC N, 26), (v7.heap.size, dvC D, 37), (y9.heap.size, cpC { c with T := V }, 26)] (y11.setCell ⟨y9.heap.size, 20, none⟩ (.int .u8 V))) := K11.out.setCell 4 _ _ _ _ rfl 20 _ (cpC_setT c V))
    | (refine gen_world (y11.setCell ⟨y9.heap.size, 20, none⟩ (.int .u8 V)) (Fm w [(w.heap.size, cpC c, 26), (w.heap.size + 1, pnC { p with Mode := 0 }, 30), (v4.heap.size, cpC N, 26), (v7.heap.size, dvC D, 37), (y9.heap.size, cpC { c with T := V }, 26)]) S0.out ?_; intro z0 T0; have x18T0 := BoxC.fP (T0.out.get 4 _ _ _ rfl); have g18T0 := frozen_heap (T0.out.get 4 _ _ _ rfl) 18; have S1 : Hid (Fm w [(w.heap.size, cpC c, 26), (w.heap.size + 1, pnC { p with Mode := 0 }, 30), (v4.heap.size, cpC N, 26), (v7.heap.size, dvC D, 37), (y9.heap.size, cpC { c with T := V, P := 1 }, 26)] (z0.setCell ⟨y9.heap.size, 18, none⟩ (.int .u8 1))) := T0.out.setCell 4 _ _ _ _ rfl 18 _ (cpC_setP { c with T := V } 1))
    | (refine gen_world (z0.setCell ⟨y9.heap.size, 18, none⟩ (.int .u8 1)) (Fm w [(w.heap.size, cpC c, 26), (w.heap.size + 1, pnC { p with Mode := 0 }, 30), (v4.heap.size, cpC N, 26), (v7.heap.size, dvC D, 37), (y9.heap.size, cpC { c with T := V, P := 1 }, 26)]) S1.out ?_; intro z1 T1; have x19T1 := BoxC.fX (T1.out.get 4 _ _ _ rfl); have g19T1 := frozen_heap (T1.out.get 4 _ _ _ rfl) 19; have S2 : Hid (Fm w [(w.heap.size, cpC c, 26), (w.heap.size + 1, pnC { p with Mode := 0 }, 30), (v4.heap.size, cpC N, 26), (v7.heap.size, dvC D, 37), (y9.heap.size, cpC { c with T := V, P := 1, X := 2 }, 26)] (z1.setCell ⟨y9.heap.size, 19, none⟩ (.int .u8 2))) := T1.out.setCell 4 _ _ _ _ rfl 19 _ (cpC_setX { c with T := V, P := 1 } 2))
    | (refine gen_world (z1.setCell ⟨y9.heap.size, 19, none⟩ (.int .u8 2)) (Fm w [(w.heap.size, cpC c, 26), (w.heap.size + 1, pnC { p with Mode := 0 }, 30), (v4.heap.size, cpC N, 26), (v7.heap.size, dvC D, 37), (y9.heap.size, cpC { c with T := V, P := 1, X := 2 }, 26)]) S2.out ?_; intro z2 T2; have x21T2 := BoxC.fIE (T2.out.get 4 _ _ _ rfl); have g21T2 := frozen_heap (T2.out.get 4 _ _ _ rfl) 21; have S3 : Hid (Fm w [(w.heap.size, cpC c, 26), (w.heap.size + 1, pnC { p with Mode := 0 }, 30), (v4.heap.size, cpC N, 26), (v7.heap.size, dvC D, 37), (y9.heap.size, cpC { c with T := V, P := 1, X := 2, IE := false }, 26)] (z2.setCell ⟨y9.heap.size, 21, none⟩ (.bool false))) := T2.out.setCell 4 _ _ _ _ rfl 21 _ (cpC_setIE { c with T := V, P := 1, X := 2 } false))
    | (refine gen_world (z2.setCell ⟨y9.heap.size, 21, none⟩ (.bool false)) (Fm w [(w.heap.size, cpC c, 26), (w.heap.size + 1, pnC { p with Mode := 0 }, 30), (v4.heap.size, cpC N, 26), (v7.heap.size, dvC D, 37), (y9.heap.size, cpC { c with T := V, P := 1, X := 2, IE := false }, 26)]) S3.out ?_; intro z3 T3; have x25T3 := BoxC.fPh (T3.out.get 4 _ _ _ rfl); have g25T3 := frozen_heap (T3.out.get 4 _ _ _ rfl) 25; have m25 := BoxC.fPh (T3.out.get 2 _ _ _ rfl); have S4 : Hid (Fm w [(w.heap.size, cpC c, 26), (w.heap.size + 1, pnC { p with Mode := 0 }, 30), (v4.heap.size, cpC N, 26), (v7.heap.size, dvC D, 37), (y9.heap.size, cpC { c with T := V, P := 1, X := 2, IE := false, Ph := N.Ph }, 26)] (z3.setCell ⟨y9.heap.size, 25, none⟩ (.int .u8 (N.Ph : Int)))) := T3.out.setCell 4 _ _ _ _ rfl 25 _ (cpC_setPh { c with T := V, P := 1, X := 2, IE := false } N.Ph))
    | (refine at_loadC w.heap.size c (K9.out.get 0 _ _ _ rfl) _ rfl rfl rfl ?_)
    | (refine at_loadC w.heap.size c (K6.out.get 0 _ _ _ rfl) _ rfl rfl rfl ?_)
    | (refine at_loadC w.heap.size c (K4.out.get 0 _ _ _ rfl) _ rfl rfl rfl ?_)
    | (refine at_loadP (w.heap.size + 1) _ (K4.out.get 1 _ _ _ rfl) _ rfl rfl rfl ?_)
    | (refine at_loadC w.heap.size c (K1.out.get 0 _ _ _ rfl) _ rfl rfl rfl ?_))
  refine region_class_tail 13 (Fm w [(w.heap.size, cpC c, 26), (w.heap.size + 1, pnC { p with Mode := 0 }, 30), (v4.heap.size, cpC N, 26), (v7.heap.size, dvC D, 37), (y9.heap.size, cpC { c with T := V, P := 1, X := 2, IE := false, Ph := N.Ph }, 26)]) (by kernel_rfl) (by kernel_rfl) (S4.out.below (below_drew (Below.refl _ _))) ?_
  simp only [List.take_succ_cons, List.take_zero, List.drop_succ_cons, List.drop_zero]
  refine quiet_one (.agg (cpC N)) rfl (quiet_loadC v4.heap.size N (fun _ h => h.get 2 _ _ _ rfl) (.tmp 7) rfl (by go_simp)) ?_
  refine quiet_one (.agg (cpC { c with T := V, P := 1, X := 2, IE := false, Ph := N.Ph })) rfl (fun u hy => by
    generalize ha : Act.put _ _ _ = a
    have e11 : a.eval (.tmp 11) = .pointer (some ⟨y9.heap.size, 0, none⟩) := by rw [← ha]; go_simp
    clear ha
    exact quiet_loadC (C := Fm w [(w.heap.size, cpC c, 26), (w.heap.size + 1, pnC { p with Mode := 0 }, 30), (v4.heap.size, cpC N, 26), (v7.heap.size, dvC D, 37), (y9.heap.size, cpC { c with T := V, P := 1, X := 2, IE := false, Ph := N.Ph }, 26)]) y9.heap.size { c with T := V, P := 1, X := 2, IE := false, Ph := N.Ph } (fun _ h => h.get 4 _ _ _ rfl) (.tmp 11) rfl e11 u hy) ?_
  refine quiet_one (.bool false) rfl (fun u hy => by
    generalize ha : Act.put _ _ _ = a
    have e83 : a.eval (.tmp 83) = .agg (cpC N) := by rw [← ha]; go_simp
    have e84 : a.eval (.tmp 84) = .agg (cpC { c with T := V, P := 1, X := 2, IE := false, Ph := N.Ph }) := by rw [← ha]; go_simp
    clear ha
    exact quiet_neC (C := Fm w [(w.heap.size, cpC c, 26), (w.heap.size + 1, pnC { p with Mode := 0 }, 30), (v4.heap.size, cpC N, 26), (v7.heap.size, dvC D, 37), (y9.heap.size, cpC { c with T := V, P := 1, X := 2, IE := false, Ph := N.Ph }, 26)]) N { c with T := V, P := 1, X := 2, IE := false, Ph := N.Ph } hNe.out (.tmp 83) (.tmp 84) _ rfl e83 e84 u hy) ?_
  refine quiet_one (.bool false) rfl (fun u hy => by go_simp) ?_
  with_reducible refine quiet_one (.agg (dvC D)) ?_ ?_ ?_
  · kernel_rfl
  · intro u hy
    generalize ha : Act.put _ _ _ = a
    have e10 : a.eval (.tmp 10) = .pointer (some ⟨v7.heap.size, 0, none⟩) := by rw [← ha]; go_simp
    clear ha
    exact quiet_loadD (C := Fm w [(w.heap.size, cpC c, 26), (w.heap.size + 1, pnC { p with Mode := 0 }, 30), (v4.heap.size, cpC N, 26), (v7.heap.size, dvC D, 37), (y9.heap.size, cpC { c with T := V, P := 1, X := 2, IE := false, Ph := N.Ph }, 26)]) v7.heap.size D (fun _ h => h.get 3 _ _ _ rfl) (.tmp 10) rfl e10 u hy
  with_reducible refine quiet_one (.pointer (some ⟨w.heap.size, 23, none⟩)) ?_ ?_ ?_
  · kernel_rfl
  · intro u hy
    go_simp
  with_reducible refine quiet_one (.int .u8 o) ?_ ?_ ?_
  · kernel_rfl
  · intro u hy
    have d : u.cell? ⟨w.heap.size, 23, none⟩ = some (.int .u8 o) := by have := BoxC.fOp (hy.get 0 _ _ _ rfl); rw [ho.out] at this; exact this
    go_simp
  with_reducible refine quiet_one (.int .u8 (q : Int)) ?_ ?_ ?_
  · kernel_rfl
  · intro u hy
    go_simp
  with_reducible refine quiet_one (.pointer (some ⟨w.heap.size, 0, none⟩)) ?_ ?_ ?_
  · kernel_rfl
  · intro u hy
    go_simp
  with_reducible refine quiet_one (.pointer (some ⟨w.heap.size, q, none⟩)) ?_ ?_ ?_
  · kernel_rfl
  · intro u hy
    go_simp
  with_reducible refine quiet_one (.int .u16 (c.R q)) ?_ ?_ ?_
  · kernel_rfl
  · intro u hy
    have d := hR'.out _ _ (hy.get 0 _ _ _ rfl)
    go_simp
  with_reducible refine quiet_one (.agg (dvC D)) ?_ ?_ ?_
  · kernel_rfl
  · intro u hy
    generalize ha : Act.put _ _ _ = a
    have e93 : a.eval (.tmp 93) = .int .u16 (c.R q) := by rw [← ha]; go_simp
    have ec : ∀ v, a.eval (.const v) = v := fun _ => rfl
    clear ha
    exact quiet_buildD (C := Fm w [(w.heap.size, cpC c, 26), (w.heap.size + 1, pnC { p with Mode := 0 }, 30), (v4.heap.size, cpC N, 26), (v7.heap.size, dvC D, 37), (y9.heap.size, cpC { c with T := V, P := 1, X := 2, IE := false, Ph := N.Ph }, 26)]) _ [(0, .int .u8 3), (1, .int .u16 (c.R q)), (7, .bool true)] D rfl (by simp [e93, ec]) hbD.out u hy
  with_reducible refine quiet_one (.bool false) ?_ ?_ ?_
  · kernel_rfl
  · intro u hy
    generalize ha : Act.put _ _ _ = a
    have e87 : a.eval (.tmp 87) = .agg (dvC D) := by rw [← ha]; go_simp
    have e94 : a.eval (.tmp 94) = .agg (dvC D) := by rw [← ha]; go_simp
    clear ha
    exact quiet_neD (C := Fm w [(w.heap.size, cpC c, 26), (w.heap.size + 1, pnC { p with Mode := 0 }, 30), (v4.heap.size, cpC N, 26), (v7.heap.size, dvC D, 37), (y9.heap.size, cpC { c with T := V, P := 1, X := 2, IE := false, Ph := N.Ph }, 26)]) D D rfl (.tmp 87) (.tmp 94) _ rfl e87 e94 u hy
  refine wpQuiet_nil ?_
  intro y14 K15
  replace K15 : Hid _ := K15
  have c25 := BoxC.fPh (K15.out.get 0 _ _ _ rfl)
  rw [hph.out] at c25
  have c23 := BoxC.fOp (K15.out.get 0 _ _ _ rfl)
  rw [ho.out] at c23
  have k25 := BoxC.fPh (K15.out.get 2 _ _ _ rfl)
  rw [n1.out] at k25
  have k21 := BoxC.fIE (K15.out.get 2 _ _ _ rfl)
  have r6 : y14.cell? ⟨w.heap.size + 1, 6, none⟩ = some (.bool p.DI) := BoxP.fDI (p := { p with Mode := 0 }) (K15.out.get 1 _ _ _ rfl)
  have r7 : y14.cell? ⟨w.heap.size + 1, 7, none⟩ = some (.bool p.DO) := BoxP.fDO (p := { p with Mode := 0 }) (K15.out.get 1 _ _ _ rfl)
  have r8 : y14.cell? ⟨w.heap.size + 1, 8, none⟩ = some (.bool p.Int_) := BoxP.fInt (p := { p with Mode := 0 }) (K15.out.get 1 _ _ _ rfl)
  rw [l1.out] at r6
  rw [l2.out] at r7
  rw [l3.out] at r8
  go_simp
  go_wp2
  all_goals go_ret
  all_goals exact ⟨by first | rfl | simp, K15.out.low⟩

end Go.Proofs.YtbeeefekndcgnaaDoor
