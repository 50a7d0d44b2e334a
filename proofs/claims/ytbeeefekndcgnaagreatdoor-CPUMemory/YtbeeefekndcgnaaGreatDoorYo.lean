/- A cycle's behind: the execute cycles, by the table's row. -/
import Derived.Test.YtbeeefekndcgnaaGreatDoorCy
import Derived.Test.YtbeeefekndcgnaaGreatDoorPl
import Derived.Test.YtbeeefekndcgnaaGreatDoorYn
import Derived.Test.YtbeeefekndcgnaaGreatDoorYk
namespace Go.Proofs.YtbeeefekndcgnaaGreatDoor
open Go Go.RowKit
set_option linter.unusedVariables false
set_option maxHeartbeats 1000000
set_option maxRecDepth 20000

theorem fldrow0 (a b c : Value) (w : World) : (Instr.field 69 (.agg #[a, b, c]) 0).run Tryz.prog w = .ok a w := by kernel_rfl
theorem fldrow1 (a b c : Value) (w : World) : (Instr.field 69 (.agg #[a, b, c]) 1).run Tryz.prog w = .ok b w := by kernel_rfl
theorem fldrow2 (a b c : Value) (w : World) : (Instr.field 69 (.agg #[a, b, c]) 2).run Tryz.prog w = .ok c w := by kernel_rfl
theorem ybehind3 (w : World) (c : Cp) (hc : c.wf) (p : Pn) (hp : p.wf) (tb : Tabs w) (h : c.Ph = 3) (k : Nat) (hk : c.Op / 16 = k) (Fn : Nat) (g0 g1 g2 : Value) (R : Cp) (hg : g1 = .func (.func Fn) #[] #[]) (hix : ∀ v, (Instr.index 70 (.agg rtab) (.int .u8 (k : Int))).run Tryz.prog v = .ok (.agg #[g0, g1, g2]) v) (hcf : ∀ v, Sem.run Tryz.prog (callFunc Fn #[.agg (cyC c p)]) v = .ok (.enter Fn #[.agg (cyC c p)]) v) (hf : ∀ v, Tabs v → Calls Tryz.prog Fn #[.agg (cyC c p)] v fun e w' => e = .returned (.agg (cpC R)) ∧ Below v.heap.size v w') : Calls Tryz.prog 28 #[.agg (cyC c p)] w fun e w' => e = .returned (.agg (cpC { R with Ph := 1 })) ∧ Below w.heap.size w w' := by
  have hph : (c.Ph : Int) = 3 := by omega
  have hk' : (c.Op : Int) / 16 = (k : Int) := by omega
  have hR0 := yrows
  have tb' : Hid (Tabs w) := tb
  subst hg
  have zz := zeroVC
  have hF : Hid (Fy w w.heap.size c p (w.heap.size + 1) zeroC ((w.alloc (.cells (cyC c p) 52)).alloc (.cells (cpC zeroC) 26))) := Fy.start w c p
  clear hc hp tb h hk
  go_enter Tryz.func28, Tryz.ntmps28
  go_wp2_with (first
    | (refine gen_world ((w.alloc (.cells (cyC c p) 52)).alloc (.cells (cpC zeroC) 26)) (Fy w w.heap.size c p (w.heap.size + 1) zeroC) hF.out ?_; intro y K)
    | (refine at_loadYC w.heap.size _ p K.out.yb _ rfl rfl rfl ?_)
    | (refine gen_world (y.alloc (.cells (cpC zeroC) 26)) (Fz w w.heap.size c p (w.heap.size + 1) zeroC y.heap.size zeroC) (Fz.new K.out zeroC) ?_; intro y2 K2)
    | (refine at_storeC y.heap.size zeroC c K2.out.l _ _ rfl rfl rfl rfl ?_; intro y3 hw3; have K3 : Hid (Fz w w.heap.size c p (w.heap.size + 1) zeroC y.heap.size c y3) := K2.out.putL hw3.out; have e25 := K3.out.f.yb.fPh; rw [hph] at e25; skip))
  refine region_class_tail 9 (Fz w w.heap.size c p (w.heap.size + 1) zeroC y.heap.size c) (by kernel_rfl) (by kernel_rfl) (K3.out.below (below_drew (Below.refl _ _))) ?_
  simp only [List.take_succ_cons, List.take_zero, List.drop_succ_cons, List.drop_zero]
  refine quiet_one (.agg rtab) rfl (fun u hy => by
    have d := (hR0 u).mono fun e w' (h : _ ∧ _) => And.intro h.1 (hy.below h.2)
    go_simp
    all_goals exact d) ?_
  refine quiet_one (.pointer (some ⟨w.heap.size, 0, none⟩)) rfl (fun u hy => by go_simp) ?_
  refine quiet_one (.pointer (some ⟨w.heap.size, 23, none⟩)) rfl (fun u hy => by go_simp) ?_
  refine quiet_one (.int .u8 (c.Op : Int)) rfl (fun u hy => by have d := hy.f.yb.fOp; go_simp) ?_
  refine quiet_one (.int .u8 (k : Int)) rfl (fun u hy => by go_simp) ?_
  refine quiet_one (.agg #[g0, Value.func (.func Fn) #[] #[], g2]) rfl (fun u hy => by go_simp) ?_
  refine quiet_one (Value.func (.func Fn) #[] #[]) rfl (fun u hy => by have d := fldrow1 (g0) (Value.func (.func Fn) #[] #[]) (g2); go_simp) ?_
  refine quiet_one (.agg (cyC c p)) rfl (fun u hy => by
    generalize ha : Act.put _ _ _ = a
    have e1 : a.eval (.tmp 1) = .pointer (some ⟨w.heap.size, 0, none⟩) := by rw [← ha]; go_simp
    clear ha
    exact quiet_loadY (C := Fz w w.heap.size c p (w.heap.size + 1) zeroC y.heap.size c) w.heap.size c p (fun _ h => h.f.yb) (.tmp 1) rfl e1 u hy) ?_
  refine quiet_one (.agg (cpC R)) rfl (fun u hy => by
    have d := (hf u (tb'.out.below hy.f.low)).mono fun e w' (h : _ ∧ _) => And.intro h.1 (hy.below h.2)
    go_simp
    all_goals exact d) ?_
  refine wpQuiet_nil ?_
  intro z3 Q3
  replace Q3 : Hid _ := Q3
  clear K3 hw3
  go_simp
  go_wp2_with (first
    | (refine at_storeC y.heap.size c R Q3.out.l _ _ rfl rfl rfl rfl ?_; intro y6 hw6; have K6 : Hid (Fz w w.heap.size c p (w.heap.size + 1) zeroC y.heap.size R y6) := Q3.out.putL hw6.out; have d25 := K6.out.l.fPh; have f25 := K6.out.l.fz 25; have K9 : Hid (Fz w w.heap.size c p (w.heap.size + 1) zeroC y.heap.size { R with Ph := 1 } (y6.setCell ⟨y.heap.size, 25, none⟩ (.int .u8 1))) := K6.out.setL 25 _ (cpC_setPh R 1))
    | (refine at_loadC y.heap.size _ K9.out.l _ rfl rfl rfl ?_)
    | (refine at_storeC (w.heap.size + 1) zeroC _ K9.out.f.z _ _ rfl rfl rfl rfl ?_; intro w2 hw2))
  refine retC Tryz.results28 rfl hw2.out.1 rfl ⟨rfl, K9.out.f.low.trans (hw2.out.2.1 _ K9.out.f.l2)⟩

theorem ybehind2_0 (w : World) (c : Cp) (hc : c.wf) (p : Pn) (hp : p.wf) (tb : Tabs w) (h : c.Ph = 2) (k : Nat) (hk : c.Op / 16 = k) (Fn : Nat) (g0 g1 g2 : Value) (R : Cp) (hg : g0 = .func (.func Fn) #[] #[]) (hix : ∀ v, (Instr.index 70 (.agg rtab) (.int .u8 (k : Int))).run Tryz.prog v = .ok (.agg #[g0, g1, g2]) v) (hcf : ∀ v, Sem.run Tryz.prog (callFunc Fn #[.agg (cyC c p)]) v = .ok (.enter Fn #[.agg (cyC c p)]) v) (hf : ∀ v, Tabs v → Calls Tryz.prog Fn #[.agg (cyC c p)] v fun e w' => e = .returned (.agg (cpC R)) ∧ Below v.heap.size v w') (hcond : c.Op / 16 = 12) : Calls Tryz.prog 28 #[.agg (cyC c p)] w fun e w' => e = .returned (.agg (cpC { R with Ph := 3 })) ∧ Below w.heap.size w w' := by
  have hph : (c.Ph : Int) = 2 := by omega
  have hk' : (c.Op : Int) / 16 = (k : Int) := by omega
  have hR0 := yrows
  have tb' : Hid (Tabs w) := tb
  have hl12 : decide (c.Op / 16 = 12) = true := by simpa using hcond
  have h0 : ((c.Op : Int) != 0) = true := by simp; omega
  have hil := fun v t => yislong v c.Op hc.Op t
  rw [hl12] at hil
  subst hg
  have zz := zeroVC
  have hF : Hid (Fy w w.heap.size c p (w.heap.size + 1) zeroC ((w.alloc (.cells (cyC c p) 52)).alloc (.cells (cpC zeroC) 26))) := Fy.start w c p
  clear hc hp tb h hk hcond hl12
  go_enter Tryz.func28, Tryz.ntmps28
  go_wp2_with (first
    | (refine gen_world ((w.alloc (.cells (cyC c p) 52)).alloc (.cells (cpC zeroC) 26)) (Fy w w.heap.size c p (w.heap.size + 1) zeroC) hF.out ?_; intro y K)
    | (refine at_loadYC w.heap.size _ p K.out.yb _ rfl rfl rfl ?_)
    | (refine gen_world (y.alloc (.cells (cpC zeroC) 26)) (Fz w w.heap.size c p (w.heap.size + 1) zeroC y.heap.size zeroC) (Fz.new K.out zeroC) ?_; intro y2 K2)
    | (refine at_storeC y.heap.size zeroC c K2.out.l _ _ rfl rfl rfl rfl ?_; intro y3 hw3; have K3 : Hid (Fz w w.heap.size c p (w.heap.size + 1) zeroC y.heap.size c y3) := K2.out.putL hw3.out; have e25 := K3.out.f.yb.fPh; rw [hph] at e25; skip))
  refine region_class_tail 9 (Fz w w.heap.size c p (w.heap.size + 1) zeroC y.heap.size c) (by kernel_rfl) (by kernel_rfl) (K3.out.below (below_drew (Below.refl _ _))) ?_
  simp only [List.take_succ_cons, List.take_zero, List.drop_succ_cons, List.drop_zero]
  refine quiet_one (.agg rtab) rfl (fun u hy => by
    have d := (hR0 u).mono fun e w' (h : _ ∧ _) => And.intro h.1 (hy.below h.2)
    go_simp
    all_goals exact d) ?_
  refine quiet_one (.pointer (some ⟨w.heap.size, 0, none⟩)) rfl (fun u hy => by go_simp) ?_
  refine quiet_one (.pointer (some ⟨w.heap.size, 23, none⟩)) rfl (fun u hy => by go_simp) ?_
  refine quiet_one (.int .u8 (c.Op : Int)) rfl (fun u hy => by have d := hy.f.yb.fOp; go_simp) ?_
  refine quiet_one (.int .u8 (k : Int)) rfl (fun u hy => by go_simp) ?_
  refine quiet_one (.agg #[Value.func (.func Fn) #[] #[], g1, g2]) rfl (fun u hy => by go_simp) ?_
  refine quiet_one (Value.func (.func Fn) #[] #[]) rfl (fun u hy => by have d := fldrow0 (Value.func (.func Fn) #[] #[]) (g1) (g2); go_simp) ?_
  refine quiet_one (.agg (cyC c p)) rfl (fun u hy => by
    generalize ha : Act.put _ _ _ = a
    have e1 : a.eval (.tmp 1) = .pointer (some ⟨w.heap.size, 0, none⟩) := by rw [← ha]; go_simp
    clear ha
    exact quiet_loadY (C := Fz w w.heap.size c p (w.heap.size + 1) zeroC y.heap.size c) w.heap.size c p (fun _ h => h.f.yb) (.tmp 1) rfl e1 u hy) ?_
  refine quiet_one (.agg (cpC R)) rfl (fun u hy => by
    have d := (hf u (tb'.out.below hy.f.low)).mono fun e w' (h : _ ∧ _) => And.intro h.1 (hy.below h.2)
    go_simp
    all_goals exact d) ?_
  refine wpQuiet_nil ?_
  intro z3 Q3
  replace Q3 : Hid _ := Q3
  clear K3 hw3
  go_simp
  go_wp2_with (first
    | (refine at_storeC y.heap.size c R Q3.out.l _ _ rfl rfl rfl rfl ?_; intro y6 hw6; have K6 : Hid (Fz w w.heap.size c p (w.heap.size + 1) zeroC y.heap.size R y6) := Q3.out.putL hw6.out; have d23 := K6.out.f.yb.fOp)
    | (go_at_call 24; refine (hil _ (tb'.out.below K6.out.f.low)).mono ?_; rintro e v7 ⟨rfl, hb7⟩; replace K6 : Hid _ := K6.out.below hb7; have e23 := K6.out.f.yb.fOp; have d25 := K6.out.l.fPh; have f25 := K6.out.l.fz 25; have K9 : Hid (Fz w w.heap.size c p (w.heap.size + 1) zeroC y.heap.size { R with Ph := 3 } (v7.setCell ⟨y.heap.size, 25, none⟩ (.int .u8 3))) := K6.out.setL 25 _ (cpC_setPh R 3))
    | (refine at_loadC y.heap.size _ K9.out.l _ rfl rfl rfl ?_)
    | (refine at_storeC (w.heap.size + 1) zeroC _ K9.out.f.z _ _ rfl rfl rfl rfl ?_; intro w2 hw2))
  refine retC Tryz.results28 rfl hw2.out.1 rfl ⟨rfl, K9.out.f.low.trans (hw2.out.2.1 _ K9.out.f.l2)⟩

theorem ybehind2_1 (w : World) (c : Cp) (hc : c.wf) (p : Pn) (hp : p.wf) (tb : Tabs w) (h : c.Ph = 2) (k : Nat) (hk : c.Op / 16 = k) (Fn : Nat) (g0 g1 g2 : Value) (R : Cp) (hg : g0 = .func (.func Fn) #[] #[]) (hix : ∀ v, (Instr.index 70 (.agg rtab) (.int .u8 (k : Int))).run Tryz.prog v = .ok (.agg #[g0, g1, g2]) v) (hcf : ∀ v, Sem.run Tryz.prog (callFunc Fn #[.agg (cyC c p)]) v = .ok (.enter Fn #[.agg (cyC c p)]) v) (hf : ∀ v, Tabs v → Calls Tryz.prog Fn #[.agg (cyC c p)] v fun e w' => e = .returned (.agg (cpC R)) ∧ Below v.heap.size v w') (hcond : c.Op = 0) : Calls Tryz.prog 28 #[.agg (cyC c p)] w fun e w' => e = .returned (.agg (cpC { R with Ph := 4 })) ∧ Below w.heap.size w w' := by
  have hph : (c.Ph : Int) = 2 := by omega
  have hk' : (c.Op : Int) / 16 = (k : Int) := by omega
  have hR0 := yrows
  have tb' : Hid (Tabs w) := tb
  have hl12 : decide (c.Op / 16 = 12) = false := by simp; omega
  have h0 : ((c.Op : Int) != 0) = false := by simp; omega
  have hil := fun v t => yislong v c.Op hc.Op t
  rw [hl12] at hil
  subst hg
  have zz := zeroVC
  have hF : Hid (Fy w w.heap.size c p (w.heap.size + 1) zeroC ((w.alloc (.cells (cyC c p) 52)).alloc (.cells (cpC zeroC) 26))) := Fy.start w c p
  clear hc hp tb h hk hcond hl12
  go_enter Tryz.func28, Tryz.ntmps28
  go_wp2_with (first
    | (refine gen_world ((w.alloc (.cells (cyC c p) 52)).alloc (.cells (cpC zeroC) 26)) (Fy w w.heap.size c p (w.heap.size + 1) zeroC) hF.out ?_; intro y K)
    | (refine at_loadYC w.heap.size _ p K.out.yb _ rfl rfl rfl ?_)
    | (refine gen_world (y.alloc (.cells (cpC zeroC) 26)) (Fz w w.heap.size c p (w.heap.size + 1) zeroC y.heap.size zeroC) (Fz.new K.out zeroC) ?_; intro y2 K2)
    | (refine at_storeC y.heap.size zeroC c K2.out.l _ _ rfl rfl rfl rfl ?_; intro y3 hw3; have K3 : Hid (Fz w w.heap.size c p (w.heap.size + 1) zeroC y.heap.size c y3) := K2.out.putL hw3.out; have e25 := K3.out.f.yb.fPh; rw [hph] at e25; skip))
  refine region_class_tail 9 (Fz w w.heap.size c p (w.heap.size + 1) zeroC y.heap.size c) (by kernel_rfl) (by kernel_rfl) (K3.out.below (below_drew (Below.refl _ _))) ?_
  simp only [List.take_succ_cons, List.take_zero, List.drop_succ_cons, List.drop_zero]
  refine quiet_one (.agg rtab) rfl (fun u hy => by
    have d := (hR0 u).mono fun e w' (h : _ ∧ _) => And.intro h.1 (hy.below h.2)
    go_simp
    all_goals exact d) ?_
  refine quiet_one (.pointer (some ⟨w.heap.size, 0, none⟩)) rfl (fun u hy => by go_simp) ?_
  refine quiet_one (.pointer (some ⟨w.heap.size, 23, none⟩)) rfl (fun u hy => by go_simp) ?_
  refine quiet_one (.int .u8 (c.Op : Int)) rfl (fun u hy => by have d := hy.f.yb.fOp; go_simp) ?_
  refine quiet_one (.int .u8 (k : Int)) rfl (fun u hy => by go_simp) ?_
  refine quiet_one (.agg #[Value.func (.func Fn) #[] #[], g1, g2]) rfl (fun u hy => by go_simp) ?_
  refine quiet_one (Value.func (.func Fn) #[] #[]) rfl (fun u hy => by have d := fldrow0 (Value.func (.func Fn) #[] #[]) (g1) (g2); go_simp) ?_
  refine quiet_one (.agg (cyC c p)) rfl (fun u hy => by
    generalize ha : Act.put _ _ _ = a
    have e1 : a.eval (.tmp 1) = .pointer (some ⟨w.heap.size, 0, none⟩) := by rw [← ha]; go_simp
    clear ha
    exact quiet_loadY (C := Fz w w.heap.size c p (w.heap.size + 1) zeroC y.heap.size c) w.heap.size c p (fun _ h => h.f.yb) (.tmp 1) rfl e1 u hy) ?_
  refine quiet_one (.agg (cpC R)) rfl (fun u hy => by
    have d := (hf u (tb'.out.below hy.f.low)).mono fun e w' (h : _ ∧ _) => And.intro h.1 (hy.below h.2)
    go_simp
    all_goals exact d) ?_
  refine wpQuiet_nil ?_
  intro z3 Q3
  replace Q3 : Hid _ := Q3
  clear K3 hw3
  go_simp
  go_wp2_with (first
    | (refine at_storeC y.heap.size c R Q3.out.l _ _ rfl rfl rfl rfl ?_; intro y6 hw6; have K6 : Hid (Fz w w.heap.size c p (w.heap.size + 1) zeroC y.heap.size R y6) := Q3.out.putL hw6.out; have d23 := K6.out.f.yb.fOp)
    | (go_at_call 24; refine (hil _ (tb'.out.below K6.out.f.low)).mono ?_; rintro e v7 ⟨rfl, hb7⟩; replace K6 : Hid _ := K6.out.below hb7; have e23 := K6.out.f.yb.fOp; have d25 := K6.out.l.fPh; have f25 := K6.out.l.fz 25; have K9 : Hid (Fz w w.heap.size c p (w.heap.size + 1) zeroC y.heap.size { R with Ph := 4 } (v7.setCell ⟨y.heap.size, 25, none⟩ (.int .u8 4))) := K6.out.setL 25 _ (cpC_setPh R 4))
    | (refine at_loadC y.heap.size _ K9.out.l _ rfl rfl rfl ?_)
    | (refine at_storeC (w.heap.size + 1) zeroC _ K9.out.f.z _ _ rfl rfl rfl rfl ?_; intro w2 hw2))
  refine retC Tryz.results28 rfl hw2.out.1 rfl ⟨rfl, K9.out.f.low.trans (hw2.out.2.1 _ K9.out.f.l2)⟩

theorem ybehind2_2 (w : World) (c : Cp) (hc : c.wf) (p : Pn) (hp : p.wf) (tb : Tabs w) (h : c.Ph = 2) (k : Nat) (hk : c.Op / 16 = k) (Fn : Nat) (g0 g1 g2 : Value) (R : Cp) (hg : g0 = .func (.func Fn) #[] #[]) (hix : ∀ v, (Instr.index 70 (.agg rtab) (.int .u8 (k : Int))).run Tryz.prog v = .ok (.agg #[g0, g1, g2]) v) (hcf : ∀ v, Sem.run Tryz.prog (callFunc Fn #[.agg (cyC c p)]) v = .ok (.enter Fn #[.agg (cyC c p)]) v) (hf : ∀ v, Tabs v → Calls Tryz.prog Fn #[.agg (cyC c p)] v fun e w' => e = .returned (.agg (cpC R)) ∧ Below v.heap.size v w') (hcond : c.Op / 16 ≠ 12 ∧ c.Op ≠ 0) : Calls Tryz.prog 28 #[.agg (cyC c p)] w fun e w' => e = .returned (.agg (cpC { R with Ph := 1 })) ∧ Below w.heap.size w w' := by
  have hph : (c.Ph : Int) = 2 := by omega
  have hk' : (c.Op : Int) / 16 = (k : Int) := by omega
  have hR0 := yrows
  have tb' : Hid (Tabs w) := tb
  have hl12 : decide (c.Op / 16 = 12) = false := by simpa using hcond.1
  have h0 : ((c.Op : Int) != 0) = true := by simp; omega
  have hil := fun v t => yislong v c.Op hc.Op t
  rw [hl12] at hil
  subst hg
  have zz := zeroVC
  have hF : Hid (Fy w w.heap.size c p (w.heap.size + 1) zeroC ((w.alloc (.cells (cyC c p) 52)).alloc (.cells (cpC zeroC) 26))) := Fy.start w c p
  clear hc hp tb h hk hcond hl12
  go_enter Tryz.func28, Tryz.ntmps28
  go_wp2_with (first
    | (refine gen_world ((w.alloc (.cells (cyC c p) 52)).alloc (.cells (cpC zeroC) 26)) (Fy w w.heap.size c p (w.heap.size + 1) zeroC) hF.out ?_; intro y K)
    | (refine at_loadYC w.heap.size _ p K.out.yb _ rfl rfl rfl ?_)
    | (refine gen_world (y.alloc (.cells (cpC zeroC) 26)) (Fz w w.heap.size c p (w.heap.size + 1) zeroC y.heap.size zeroC) (Fz.new K.out zeroC) ?_; intro y2 K2)
    | (refine at_storeC y.heap.size zeroC c K2.out.l _ _ rfl rfl rfl rfl ?_; intro y3 hw3; have K3 : Hid (Fz w w.heap.size c p (w.heap.size + 1) zeroC y.heap.size c y3) := K2.out.putL hw3.out; have e25 := K3.out.f.yb.fPh; rw [hph] at e25; skip))
  refine region_class_tail 9 (Fz w w.heap.size c p (w.heap.size + 1) zeroC y.heap.size c) (by kernel_rfl) (by kernel_rfl) (K3.out.below (below_drew (Below.refl _ _))) ?_
  simp only [List.take_succ_cons, List.take_zero, List.drop_succ_cons, List.drop_zero]
  refine quiet_one (.agg rtab) rfl (fun u hy => by
    have d := (hR0 u).mono fun e w' (h : _ ∧ _) => And.intro h.1 (hy.below h.2)
    go_simp
    all_goals exact d) ?_
  refine quiet_one (.pointer (some ⟨w.heap.size, 0, none⟩)) rfl (fun u hy => by go_simp) ?_
  refine quiet_one (.pointer (some ⟨w.heap.size, 23, none⟩)) rfl (fun u hy => by go_simp) ?_
  refine quiet_one (.int .u8 (c.Op : Int)) rfl (fun u hy => by have d := hy.f.yb.fOp; go_simp) ?_
  refine quiet_one (.int .u8 (k : Int)) rfl (fun u hy => by go_simp) ?_
  refine quiet_one (.agg #[Value.func (.func Fn) #[] #[], g1, g2]) rfl (fun u hy => by go_simp) ?_
  refine quiet_one (Value.func (.func Fn) #[] #[]) rfl (fun u hy => by have d := fldrow0 (Value.func (.func Fn) #[] #[]) (g1) (g2); go_simp) ?_
  refine quiet_one (.agg (cyC c p)) rfl (fun u hy => by
    generalize ha : Act.put _ _ _ = a
    have e1 : a.eval (.tmp 1) = .pointer (some ⟨w.heap.size, 0, none⟩) := by rw [← ha]; go_simp
    clear ha
    exact quiet_loadY (C := Fz w w.heap.size c p (w.heap.size + 1) zeroC y.heap.size c) w.heap.size c p (fun _ h => h.f.yb) (.tmp 1) rfl e1 u hy) ?_
  refine quiet_one (.agg (cpC R)) rfl (fun u hy => by
    have d := (hf u (tb'.out.below hy.f.low)).mono fun e w' (h : _ ∧ _) => And.intro h.1 (hy.below h.2)
    go_simp
    all_goals exact d) ?_
  refine wpQuiet_nil ?_
  intro z3 Q3
  replace Q3 : Hid _ := Q3
  clear K3 hw3
  go_simp
  go_wp2_with (first
    | (refine at_storeC y.heap.size c R Q3.out.l _ _ rfl rfl rfl rfl ?_; intro y6 hw6; have K6 : Hid (Fz w w.heap.size c p (w.heap.size + 1) zeroC y.heap.size R y6) := Q3.out.putL hw6.out; have d23 := K6.out.f.yb.fOp)
    | (go_at_call 24; refine (hil _ (tb'.out.below K6.out.f.low)).mono ?_; rintro e v7 ⟨rfl, hb7⟩; replace K6 : Hid _ := K6.out.below hb7; have e23 := K6.out.f.yb.fOp; have d25 := K6.out.l.fPh; have f25 := K6.out.l.fz 25; have K9 : Hid (Fz w w.heap.size c p (w.heap.size + 1) zeroC y.heap.size { R with Ph := 1 } (v7.setCell ⟨y.heap.size, 25, none⟩ (.int .u8 1))) := K6.out.setL 25 _ (cpC_setPh R 1))
    | (refine at_loadC y.heap.size _ K9.out.l _ rfl rfl rfl ?_)
    | (refine at_storeC (w.heap.size + 1) zeroC _ K9.out.f.z _ _ rfl rfl rfl rfl ?_; intro w2 hw2))
  refine retC Tryz.results28 rfl hw2.out.1 rfl ⟨rfl, K9.out.f.low.trans (hw2.out.2.1 _ K9.out.f.l2)⟩

end Go.Proofs.YtbeeefekndcgnaaGreatDoor
