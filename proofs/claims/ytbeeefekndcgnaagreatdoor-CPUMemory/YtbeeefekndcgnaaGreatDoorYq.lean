/- A cycle in the mode Load, and in the mode Run. -/
import Derived.Test.YtbeeefekndcgnaaGreatDoorCy
import Derived.Test.YtbeeefekndcgnaaGreatDoorPl
import Derived.Test.YtbeeefekndcgnaaGreatDoorYp
namespace Go.Proofs.YtbeeefekndcgnaaGreatDoor
open Go Go.RowKit
set_option linter.unusedVariables false
set_option maxHeartbeats 1000000
set_option maxRecDepth 20000

theorem ybloadtrue (w : World) (c : Cp) (hc : c.wf) (p : Pn) (hp : p.wf) (tb : Tabs w) (hm : mayM c) (hd : p.DI = true) (r : Cp) (hres : { behindM c p with Ph := 6 } = r) : Calls Tryz.prog 20 #[.agg (cyC c p)] w fun e w' => e = .returned (.agg (cpC r)) ∧ Below w.heap.size w w' := by
  have hb := fun v t => ybehind v c hc p hp t hm
  obtain ⟨R, hR⟩ : ∃ R, behindM c p = R := ⟨_, rfl⟩
  rw [hR] at hb hres
  have tb' : Hid (Tabs w) := tb
  subst hres
  have zz := zeroVC
  have hF : Hid (Fy w w.heap.size c p (w.heap.size + 1) zeroC ((w.alloc (.cells (cyC c p) 52)).alloc (.cells (cpC zeroC) 26))) := Fy.start w c p
  clear hc hp tb hm hR
  go_enter Tryz.func20, Tryz.ntmps20
  go_wp2_with (first
    | (refine gen_world ((w.alloc (.cells (cyC c p) 52)).alloc (.cells (cpC zeroC) 26)) (Fy w w.heap.size c p (w.heap.size + 1) zeroC) hF.out ?_; intro y K)
    | (refine at_loadY w.heap.size c p K.out.yb _ rfl rfl rfl ?_)
    | (go_at_call 28; refine (hb _ (tb'.out.below K.out.low)).mono ?_; rintro e v1 ⟨rfl, hb1⟩; replace K : Hid _ := K.out.below hb1)
    | (refine gen_world (v1.alloc (.cells (cpC zeroC) 26)) (Fz w w.heap.size c p (w.heap.size + 1) zeroC v1.heap.size zeroC) (Fz.new K.out zeroC) ?_; intro y2 K2)
    | (refine at_storeC v1.heap.size zeroC R K2.out.l _ _ rfl rfl rfl rfl ?_; intro y3 hw3; have K3 : Hid (Fz w w.heap.size c p (w.heap.size + 1) zeroC v1.heap.size R y3) := K2.out.putL hw3.out; have d32 := K3.out.f.yb.fDI; rw [hd] at d32; have d25 := K3.out.l.fPh; have f25 := K3.out.l.fz 25; have K9 : Hid (Fz w w.heap.size c p (w.heap.size + 1) zeroC v1.heap.size { R with Ph := 6 } (y3.setCell ⟨v1.heap.size, 25, none⟩ (.int .u8 6))) := K3.out.setL 25 _ (cpC_setPh R 6))
    | (refine at_loadC v1.heap.size _ K9.out.l _ rfl rfl rfl ?_)
    | (refine at_storeC (w.heap.size + 1) zeroC _ K9.out.f.z _ _ rfl rfl rfl rfl ?_; intro w2 hw2))
  refine retC Tryz.results20 rfl hw2.out.1 rfl ⟨rfl, K9.out.f.low.trans (hw2.out.2.1 _ K9.out.f.l2)⟩

theorem ybloadfalse (w : World) (c : Cp) (hc : c.wf) (p : Pn) (hp : p.wf) (tb : Tabs w) (hm : mayM c) (hd : p.DI = false) (r : Cp) (hres : { behindM c p with Ph := 4, Op := 0 } = r) : Calls Tryz.prog 20 #[.agg (cyC c p)] w fun e w' => e = .returned (.agg (cpC r)) ∧ Below w.heap.size w w' := by
  have hb := fun v t => ybehind v c hc p hp t hm
  obtain ⟨R, hR⟩ : ∃ R, behindM c p = R := ⟨_, rfl⟩
  rw [hR] at hb hres
  have tb' : Hid (Tabs w) := tb
  subst hres
  have zz := zeroVC
  have hF : Hid (Fy w w.heap.size c p (w.heap.size + 1) zeroC ((w.alloc (.cells (cyC c p) 52)).alloc (.cells (cpC zeroC) 26))) := Fy.start w c p
  clear hc hp tb hm hR
  go_enter Tryz.func20, Tryz.ntmps20
  go_wp2_with (first
    | (refine gen_world ((w.alloc (.cells (cyC c p) 52)).alloc (.cells (cpC zeroC) 26)) (Fy w w.heap.size c p (w.heap.size + 1) zeroC) hF.out ?_; intro y K)
    | (refine at_loadY w.heap.size c p K.out.yb _ rfl rfl rfl ?_)
    | (go_at_call 28; refine (hb _ (tb'.out.below K.out.low)).mono ?_; rintro e v1 ⟨rfl, hb1⟩; replace K : Hid _ := K.out.below hb1)
    | (refine gen_world (v1.alloc (.cells (cpC zeroC) 26)) (Fz w w.heap.size c p (w.heap.size + 1) zeroC v1.heap.size zeroC) (Fz.new K.out zeroC) ?_; intro y2 K2)
    | (refine at_storeC v1.heap.size zeroC R K2.out.l _ _ rfl rfl rfl rfl ?_; intro y3 hw3; have K3 : Hid (Fz w w.heap.size c p (w.heap.size + 1) zeroC v1.heap.size R y3) := K2.out.putL hw3.out; have d32 := K3.out.f.yb.fDI; rw [hd] at d32; have d25 := K3.out.l.fPh; have f25 := K3.out.l.fz 25; have d23 := K3.out.l.fOp; have f23 := K3.out.l.fz 23; have K8 : Hid (Fz w w.heap.size c p (w.heap.size + 1) zeroC v1.heap.size { R with Ph := 4 } (y3.setCell ⟨v1.heap.size, 25, none⟩ (.int .u8 4))) := K3.out.setL 25 _ (cpC_setPh R 4); have K9 : Hid (Fz w w.heap.size c p (w.heap.size + 1) zeroC v1.heap.size { R with Ph := 4, Op := 0 } ((y3.setCell ⟨v1.heap.size, 25, none⟩ (.int .u8 4)).setCell ⟨v1.heap.size, 23, none⟩ (.int .u8 0))) := K8.out.setL 23 _ (cpC_setOp { R with Ph := 4 } 0))
    | (refine at_loadC v1.heap.size _ K9.out.l _ rfl rfl rfl ?_)
    | (refine at_storeC (w.heap.size + 1) zeroC _ K9.out.f.z _ _ rfl rfl rfl rfl ?_; intro w2 hw2))
  refine retC Tryz.results20 rfl hw2.out.1 rfl ⟨rfl, K9.out.f.low.trans (hw2.out.2.1 _ K9.out.f.l2)⟩

theorem ybrun_q2 (w : World) (c : Cp) (hc : c.wf) (p : Pn) (hp : p.wf) (tb : Tabs w) (hm : mayM c) (h2 : (behindM c p).Ph = 2) (r : Cp) (hres : (behindM c p) = r) : Calls Tryz.prog 21 #[.agg (cyC c p)] w fun e w' => e = .returned (.agg (cpC r)) ∧ Below w.heap.size w w' := by
  have hb := fun v t => ybehind v c hc p hp t hm
  obtain ⟨R, hR⟩ : ∃ R, behindM c p = R := ⟨_, rfl⟩
  rw [hR] at hb hres
  have tb' : Hid (Tabs w) := tb
  have h2' : (R.Ph : Int) = 2 := by rw [← hR]; omega
  subst hres
  have zz := zeroVC
  have hF : Hid (Fy w w.heap.size c p (w.heap.size + 1) zeroC ((w.alloc (.cells (cyC c p) 52)).alloc (.cells (cpC zeroC) 26))) := Fy.start w c p
  clear hc hp tb hm hR h2
  go_enter Tryz.func21, Tryz.ntmps21
  go_wp2_with (first
    | (refine gen_world ((w.alloc (.cells (cyC c p) 52)).alloc (.cells (cpC zeroC) 26)) (Fy w w.heap.size c p (w.heap.size + 1) zeroC) hF.out ?_; intro y K)
    | (refine at_loadY w.heap.size c p K.out.yb _ rfl rfl rfl ?_)
    | (go_at_call 28; refine (hb _ (tb'.out.below K.out.low)).mono ?_; rintro e v1 ⟨rfl, hb1⟩; replace K : Hid _ := K.out.below hb1)
    | (refine gen_world (v1.alloc (.cells (cpC zeroC) 26)) (Fz w w.heap.size c p (w.heap.size + 1) zeroC v1.heap.size zeroC) (Fz.new K.out zeroC) ?_; intro y2 K2)
    | (refine at_storeC v1.heap.size zeroC R K2.out.l _ _ rfl rfl rfl rfl ?_; intro y3 hw3; have K3 : Hid (Fz w w.heap.size c p (w.heap.size + 1) zeroC v1.heap.size R y3) := K2.out.putL hw3.out; have d25 := K3.out.l.fPh; have f25 := K3.out.l.fz 25; have d21 := K3.out.l.fIE; have d32 := K3.out.f.yb.fDI; have d33 := K3.out.f.yb.fDO; have d34 := K3.out.f.yb.fInt; have e25 := K3.out.f.yb.fPh; rw [h2'] at d25; have K9 := K3)
    | (refine at_loadC v1.heap.size _ K9.out.l _ rfl rfl rfl ?_)
    | (refine at_storeC (w.heap.size + 1) zeroC _ K9.out.f.z _ _ rfl rfl rfl rfl ?_; intro w2 hw2))
  refine retC Tryz.results21 rfl hw2.out.1 rfl ⟨rfl, K9.out.f.low.trans (hw2.out.2.1 _ K9.out.f.l2)⟩

theorem ybrun_q3 (w : World) (c : Cp) (hc : c.wf) (p : Pn) (hp : p.wf) (tb : Tabs w) (hm : mayM c) (h2 : (behindM c p).Ph = 3) (r : Cp) (hres : (behindM c p) = r) : Calls Tryz.prog 21 #[.agg (cyC c p)] w fun e w' => e = .returned (.agg (cpC r)) ∧ Below w.heap.size w w' := by
  have hb := fun v t => ybehind v c hc p hp t hm
  obtain ⟨R, hR⟩ : ∃ R, behindM c p = R := ⟨_, rfl⟩
  rw [hR] at hb hres
  have tb' : Hid (Tabs w) := tb
  have h2' : (R.Ph : Int) = 3 := by rw [← hR]; omega
  subst hres
  have zz := zeroVC
  have hF : Hid (Fy w w.heap.size c p (w.heap.size + 1) zeroC ((w.alloc (.cells (cyC c p) 52)).alloc (.cells (cpC zeroC) 26))) := Fy.start w c p
  clear hc hp tb hm hR h2
  go_enter Tryz.func21, Tryz.ntmps21
  go_wp2_with (first
    | (refine gen_world ((w.alloc (.cells (cyC c p) 52)).alloc (.cells (cpC zeroC) 26)) (Fy w w.heap.size c p (w.heap.size + 1) zeroC) hF.out ?_; intro y K)
    | (refine at_loadY w.heap.size c p K.out.yb _ rfl rfl rfl ?_)
    | (go_at_call 28; refine (hb _ (tb'.out.below K.out.low)).mono ?_; rintro e v1 ⟨rfl, hb1⟩; replace K : Hid _ := K.out.below hb1)
    | (refine gen_world (v1.alloc (.cells (cpC zeroC) 26)) (Fz w w.heap.size c p (w.heap.size + 1) zeroC v1.heap.size zeroC) (Fz.new K.out zeroC) ?_; intro y2 K2)
    | (refine at_storeC v1.heap.size zeroC R K2.out.l _ _ rfl rfl rfl rfl ?_; intro y3 hw3; have K3 : Hid (Fz w w.heap.size c p (w.heap.size + 1) zeroC v1.heap.size R y3) := K2.out.putL hw3.out; have d25 := K3.out.l.fPh; have f25 := K3.out.l.fz 25; have d21 := K3.out.l.fIE; have d32 := K3.out.f.yb.fDI; have d33 := K3.out.f.yb.fDO; have d34 := K3.out.f.yb.fInt; have e25 := K3.out.f.yb.fPh; rw [h2'] at d25; have K9 := K3)
    | (refine at_loadC v1.heap.size _ K9.out.l _ rfl rfl rfl ?_)
    | (refine at_storeC (w.heap.size + 1) zeroC _ K9.out.f.z _ _ rfl rfl rfl rfl ?_; intro w2 hw2))
  refine retC Tryz.results21 rfl hw2.out.1 rfl ⟨rfl, K9.out.f.low.trans (hw2.out.2.1 _ K9.out.f.l2)⟩

theorem ybrun_di (w : World) (c : Cp) (hc : c.wf) (p : Pn) (hp : p.wf) (tb : Tabs w) (hm : mayM c) (h2 : (behindM c p).Ph ≠ 2) (h3 : (behindM c p).Ph ≠ 3) (hd : p.DI = true) (r : Cp) (hres : { behindM c p with Ph := 6 } = r) : Calls Tryz.prog 21 #[.agg (cyC c p)] w fun e w' => e = .returned (.agg (cpC r)) ∧ Below w.heap.size w w' := by
  have hb := fun v t => ybehind v c hc p hp t hm
  obtain ⟨R, hR⟩ : ∃ R, behindM c p = R := ⟨_, rfl⟩
  rw [hR] at hb hres
  have tb' : Hid (Tabs w) := tb
  have h2' : ((R.Ph : Int) == 2) = false := by rw [← hR]; simp; omega
  have h3' : ((R.Ph : Int) == 3) = false := by rw [← hR]; simp; omega
  subst hres
  have zz := zeroVC
  have hF : Hid (Fy w w.heap.size c p (w.heap.size + 1) zeroC ((w.alloc (.cells (cyC c p) 52)).alloc (.cells (cpC zeroC) 26))) := Fy.start w c p
  clear hc hp tb hm hR h2 h3
  go_enter Tryz.func21, Tryz.ntmps21
  go_wp2_with (first
    | (refine gen_world ((w.alloc (.cells (cyC c p) 52)).alloc (.cells (cpC zeroC) 26)) (Fy w w.heap.size c p (w.heap.size + 1) zeroC) hF.out ?_; intro y K)
    | (refine at_loadY w.heap.size c p K.out.yb _ rfl rfl rfl ?_)
    | (go_at_call 28; refine (hb _ (tb'.out.below K.out.low)).mono ?_; rintro e v1 ⟨rfl, hb1⟩; replace K : Hid _ := K.out.below hb1)
    | (refine gen_world (v1.alloc (.cells (cpC zeroC) 26)) (Fz w w.heap.size c p (w.heap.size + 1) zeroC v1.heap.size zeroC) (Fz.new K.out zeroC) ?_; intro y2 K2)
    | (refine at_storeC v1.heap.size zeroC R K2.out.l _ _ rfl rfl rfl rfl ?_; intro y3 hw3; have K3 : Hid (Fz w w.heap.size c p (w.heap.size + 1) zeroC v1.heap.size R y3) := K2.out.putL hw3.out; have d25 := K3.out.l.fPh; have f25 := K3.out.l.fz 25; have d21 := K3.out.l.fIE; have d32 := K3.out.f.yb.fDI; have d33 := K3.out.f.yb.fDO; have d34 := K3.out.f.yb.fInt; have e25 := K3.out.f.yb.fPh; rw [hd] at d32; have K9 : Hid (Fz w w.heap.size c p (w.heap.size + 1) zeroC v1.heap.size { R with Ph := 6 } (y3.setCell ⟨v1.heap.size, 25, none⟩ (.int .u8 6))) := K3.out.setL 25 _ (cpC_setPh R 6))
    | (refine at_loadC v1.heap.size _ K9.out.l _ rfl rfl rfl ?_)
    | (refine at_storeC (w.heap.size + 1) zeroC _ K9.out.f.z _ _ rfl rfl rfl rfl ?_; intro w2 hw2))
  refine retC Tryz.results21 rfl hw2.out.1 rfl ⟨rfl, K9.out.f.low.trans (hw2.out.2.1 _ K9.out.f.l2)⟩

theorem ybrun_do (w : World) (c : Cp) (hc : c.wf) (p : Pn) (hp : p.wf) (tb : Tabs w) (hm : mayM c) (h2 : (behindM c p).Ph ≠ 2) (h3 : (behindM c p).Ph ≠ 3) (hd : p.DI = false) (ho : p.DO = true) (r : Cp) (hres : { behindM c p with Ph := 7 } = r) : Calls Tryz.prog 21 #[.agg (cyC c p)] w fun e w' => e = .returned (.agg (cpC r)) ∧ Below w.heap.size w w' := by
  have hb := fun v t => ybehind v c hc p hp t hm
  obtain ⟨R, hR⟩ : ∃ R, behindM c p = R := ⟨_, rfl⟩
  rw [hR] at hb hres
  have tb' : Hid (Tabs w) := tb
  have h2' : ((R.Ph : Int) == 2) = false := by rw [← hR]; simp; omega
  have h3' : ((R.Ph : Int) == 3) = false := by rw [← hR]; simp; omega
  subst hres
  have zz := zeroVC
  have hF : Hid (Fy w w.heap.size c p (w.heap.size + 1) zeroC ((w.alloc (.cells (cyC c p) 52)).alloc (.cells (cpC zeroC) 26))) := Fy.start w c p
  clear hc hp tb hm hR h2 h3
  go_enter Tryz.func21, Tryz.ntmps21
  go_wp2_with (first
    | (refine gen_world ((w.alloc (.cells (cyC c p) 52)).alloc (.cells (cpC zeroC) 26)) (Fy w w.heap.size c p (w.heap.size + 1) zeroC) hF.out ?_; intro y K)
    | (refine at_loadY w.heap.size c p K.out.yb _ rfl rfl rfl ?_)
    | (go_at_call 28; refine (hb _ (tb'.out.below K.out.low)).mono ?_; rintro e v1 ⟨rfl, hb1⟩; replace K : Hid _ := K.out.below hb1)
    | (refine gen_world (v1.alloc (.cells (cpC zeroC) 26)) (Fz w w.heap.size c p (w.heap.size + 1) zeroC v1.heap.size zeroC) (Fz.new K.out zeroC) ?_; intro y2 K2)
    | (refine at_storeC v1.heap.size zeroC R K2.out.l _ _ rfl rfl rfl rfl ?_; intro y3 hw3; have K3 : Hid (Fz w w.heap.size c p (w.heap.size + 1) zeroC v1.heap.size R y3) := K2.out.putL hw3.out; have d25 := K3.out.l.fPh; have f25 := K3.out.l.fz 25; have d21 := K3.out.l.fIE; have d32 := K3.out.f.yb.fDI; have d33 := K3.out.f.yb.fDO; have d34 := K3.out.f.yb.fInt; have e25 := K3.out.f.yb.fPh; rw [hd] at d32; rw [ho] at d33; have K9 : Hid (Fz w w.heap.size c p (w.heap.size + 1) zeroC v1.heap.size { R with Ph := 7 } (y3.setCell ⟨v1.heap.size, 25, none⟩ (.int .u8 7))) := K3.out.setL 25 _ (cpC_setPh R 7))
    | (refine at_loadC v1.heap.size _ K9.out.l _ rfl rfl rfl ?_)
    | (refine at_storeC (w.heap.size + 1) zeroC _ K9.out.f.z _ _ rfl rfl rfl rfl ?_; intro w2 hw2))
  refine retC Tryz.results21 rfl hw2.out.1 rfl ⟨rfl, K9.out.f.low.trans (hw2.out.2.1 _ K9.out.f.l2)⟩

theorem ybrun_int (w : World) (c : Cp) (hc : c.wf) (p : Pn) (hp : p.wf) (tb : Tabs w) (hm : mayM c) (h2 : (behindM c p).Ph ≠ 2) (h3 : (behindM c p).Ph ≠ 3) (hd : p.DI = false) (ho : p.DO = false) (hi : p.Int_ = true) (hie : (behindM c p).IE = true) (h5 : c.Ph ≠ 5) (h8 : c.Ph ≠ 8) (r : Cp) (hres : { behindM c p with Ph := 8 } = r) : Calls Tryz.prog 21 #[.agg (cyC c p)] w fun e w' => e = .returned (.agg (cpC r)) ∧ Below w.heap.size w w' := by
  have hb := fun v t => ybehind v c hc p hp t hm
  obtain ⟨R, hR⟩ : ∃ R, behindM c p = R := ⟨_, rfl⟩
  rw [hR] at hb hres
  have tb' : Hid (Tabs w) := tb
  have h2' : ((R.Ph : Int) == 2) = false := by rw [← hR]; simp; omega
  have h3' : ((R.Ph : Int) == 3) = false := by rw [← hR]; simp; omega
  rw [hR] at hie
  have h5' : ((c.Ph : Int) != 5) = true := by simp; omega
  have h8' : ((c.Ph : Int) != 8) = true := by simp; omega
  subst hres
  have zz := zeroVC
  have hF : Hid (Fy w w.heap.size c p (w.heap.size + 1) zeroC ((w.alloc (.cells (cyC c p) 52)).alloc (.cells (cpC zeroC) 26))) := Fy.start w c p
  clear hc hp tb hm hR h2 h3 h5 h8
  go_enter Tryz.func21, Tryz.ntmps21
  go_wp2_with (first
    | (refine gen_world ((w.alloc (.cells (cyC c p) 52)).alloc (.cells (cpC zeroC) 26)) (Fy w w.heap.size c p (w.heap.size + 1) zeroC) hF.out ?_; intro y K)
    | (refine at_loadY w.heap.size c p K.out.yb _ rfl rfl rfl ?_)
    | (go_at_call 28; refine (hb _ (tb'.out.below K.out.low)).mono ?_; rintro e v1 ⟨rfl, hb1⟩; replace K : Hid _ := K.out.below hb1)
    | (refine gen_world (v1.alloc (.cells (cpC zeroC) 26)) (Fz w w.heap.size c p (w.heap.size + 1) zeroC v1.heap.size zeroC) (Fz.new K.out zeroC) ?_; intro y2 K2)
    | (refine at_storeC v1.heap.size zeroC R K2.out.l _ _ rfl rfl rfl rfl ?_; intro y3 hw3; have K3 : Hid (Fz w w.heap.size c p (w.heap.size + 1) zeroC v1.heap.size R y3) := K2.out.putL hw3.out; have d25 := K3.out.l.fPh; have f25 := K3.out.l.fz 25; have d21 := K3.out.l.fIE; have d32 := K3.out.f.yb.fDI; have d33 := K3.out.f.yb.fDO; have d34 := K3.out.f.yb.fInt; have e25 := K3.out.f.yb.fPh; rw [hd] at d32; rw [ho] at d33; rw [hi] at d34; rw [hie] at d21; have K9 : Hid (Fz w w.heap.size c p (w.heap.size + 1) zeroC v1.heap.size { R with Ph := 8 } (y3.setCell ⟨v1.heap.size, 25, none⟩ (.int .u8 8))) := K3.out.setL 25 _ (cpC_setPh R 8))
    | (refine at_loadC v1.heap.size _ K9.out.l _ rfl rfl rfl ?_)
    | (refine at_storeC (w.heap.size + 1) zeroC _ K9.out.f.z _ _ rfl rfl rfl rfl ?_; intro w2 hw2))
  refine retC Tryz.results21 rfl hw2.out.1 rfl ⟨rfl, K9.out.f.low.trans (hw2.out.2.1 _ K9.out.f.l2)⟩

theorem ybrun_no1 (w : World) (c : Cp) (hc : c.wf) (p : Pn) (hp : p.wf) (tb : Tabs w) (hm : mayM c) (h2 : (behindM c p).Ph ≠ 2) (h3 : (behindM c p).Ph ≠ 3) (hd : p.DI = false) (ho : p.DO = false) (hi : p.Int_ = false) (r : Cp) (hres : (behindM c p) = r) : Calls Tryz.prog 21 #[.agg (cyC c p)] w fun e w' => e = .returned (.agg (cpC r)) ∧ Below w.heap.size w w' := by
  have hb := fun v t => ybehind v c hc p hp t hm
  obtain ⟨R, hR⟩ : ∃ R, behindM c p = R := ⟨_, rfl⟩
  rw [hR] at hb hres
  have tb' : Hid (Tabs w) := tb
  have h2' : ((R.Ph : Int) == 2) = false := by rw [← hR]; simp; omega
  have h3' : ((R.Ph : Int) == 3) = false := by rw [← hR]; simp; omega
  subst hres
  have zz := zeroVC
  have hF : Hid (Fy w w.heap.size c p (w.heap.size + 1) zeroC ((w.alloc (.cells (cyC c p) 52)).alloc (.cells (cpC zeroC) 26))) := Fy.start w c p
  clear hc hp tb hm hR h2 h3
  go_enter Tryz.func21, Tryz.ntmps21
  go_wp2_with (first
    | (refine gen_world ((w.alloc (.cells (cyC c p) 52)).alloc (.cells (cpC zeroC) 26)) (Fy w w.heap.size c p (w.heap.size + 1) zeroC) hF.out ?_; intro y K)
    | (refine at_loadY w.heap.size c p K.out.yb _ rfl rfl rfl ?_)
    | (go_at_call 28; refine (hb _ (tb'.out.below K.out.low)).mono ?_; rintro e v1 ⟨rfl, hb1⟩; replace K : Hid _ := K.out.below hb1)
    | (refine gen_world (v1.alloc (.cells (cpC zeroC) 26)) (Fz w w.heap.size c p (w.heap.size + 1) zeroC v1.heap.size zeroC) (Fz.new K.out zeroC) ?_; intro y2 K2)
    | (refine at_storeC v1.heap.size zeroC R K2.out.l _ _ rfl rfl rfl rfl ?_; intro y3 hw3; have K3 : Hid (Fz w w.heap.size c p (w.heap.size + 1) zeroC v1.heap.size R y3) := K2.out.putL hw3.out; have d25 := K3.out.l.fPh; have f25 := K3.out.l.fz 25; have d21 := K3.out.l.fIE; have d32 := K3.out.f.yb.fDI; have d33 := K3.out.f.yb.fDO; have d34 := K3.out.f.yb.fInt; have e25 := K3.out.f.yb.fPh; rw [hd] at d32; rw [ho] at d33; rw [hi] at d34; have K9 := K3)
    | (refine at_loadC v1.heap.size _ K9.out.l _ rfl rfl rfl ?_)
    | (refine at_storeC (w.heap.size + 1) zeroC _ K9.out.f.z _ _ rfl rfl rfl rfl ?_; intro w2 hw2))
  refine retC Tryz.results21 rfl hw2.out.1 rfl ⟨rfl, K9.out.f.low.trans (hw2.out.2.1 _ K9.out.f.l2)⟩

theorem ybrun_no2 (w : World) (c : Cp) (hc : c.wf) (p : Pn) (hp : p.wf) (tb : Tabs w) (hm : mayM c) (h2 : (behindM c p).Ph ≠ 2) (h3 : (behindM c p).Ph ≠ 3) (hd : p.DI = false) (ho : p.DO = false) (hi : p.Int_ = true) (hie : (behindM c p).IE = false) (r : Cp) (hres : (behindM c p) = r) : Calls Tryz.prog 21 #[.agg (cyC c p)] w fun e w' => e = .returned (.agg (cpC r)) ∧ Below w.heap.size w w' := by
  have hb := fun v t => ybehind v c hc p hp t hm
  obtain ⟨R, hR⟩ : ∃ R, behindM c p = R := ⟨_, rfl⟩
  rw [hR] at hb hres
  have tb' : Hid (Tabs w) := tb
  have h2' : ((R.Ph : Int) == 2) = false := by rw [← hR]; simp; omega
  have h3' : ((R.Ph : Int) == 3) = false := by rw [← hR]; simp; omega
  rw [hR] at hie
  subst hres
  have zz := zeroVC
  have hF : Hid (Fy w w.heap.size c p (w.heap.size + 1) zeroC ((w.alloc (.cells (cyC c p) 52)).alloc (.cells (cpC zeroC) 26))) := Fy.start w c p
  clear hc hp tb hm hR h2 h3
  go_enter Tryz.func21, Tryz.ntmps21
  go_wp2_with (first
    | (refine gen_world ((w.alloc (.cells (cyC c p) 52)).alloc (.cells (cpC zeroC) 26)) (Fy w w.heap.size c p (w.heap.size + 1) zeroC) hF.out ?_; intro y K)
    | (refine at_loadY w.heap.size c p K.out.yb _ rfl rfl rfl ?_)
    | (go_at_call 28; refine (hb _ (tb'.out.below K.out.low)).mono ?_; rintro e v1 ⟨rfl, hb1⟩; replace K : Hid _ := K.out.below hb1)
    | (refine gen_world (v1.alloc (.cells (cpC zeroC) 26)) (Fz w w.heap.size c p (w.heap.size + 1) zeroC v1.heap.size zeroC) (Fz.new K.out zeroC) ?_; intro y2 K2)
    | (refine at_storeC v1.heap.size zeroC R K2.out.l _ _ rfl rfl rfl rfl ?_; intro y3 hw3; have K3 : Hid (Fz w w.heap.size c p (w.heap.size + 1) zeroC v1.heap.size R y3) := K2.out.putL hw3.out; have d25 := K3.out.l.fPh; have f25 := K3.out.l.fz 25; have d21 := K3.out.l.fIE; have d32 := K3.out.f.yb.fDI; have d33 := K3.out.f.yb.fDO; have d34 := K3.out.f.yb.fInt; have e25 := K3.out.f.yb.fPh; rw [hd] at d32; rw [ho] at d33; rw [hi] at d34; rw [hie] at d21; have K9 := K3)
    | (refine at_loadC v1.heap.size _ K9.out.l _ rfl rfl rfl ?_)
    | (refine at_storeC (w.heap.size + 1) zeroC _ K9.out.f.z _ _ rfl rfl rfl rfl ?_; intro w2 hw2))
  refine retC Tryz.results21 rfl hw2.out.1 rfl ⟨rfl, K9.out.f.low.trans (hw2.out.2.1 _ K9.out.f.l2)⟩

theorem ybrun_no3 (w : World) (c : Cp) (hc : c.wf) (p : Pn) (hp : p.wf) (tb : Tabs w) (hm : mayM c) (h2 : (behindM c p).Ph ≠ 2) (h3 : (behindM c p).Ph ≠ 3) (hd : p.DI = false) (ho : p.DO = false) (hi : p.Int_ = true) (hie : (behindM c p).IE = true) (h5 : c.Ph = 5) (r : Cp) (hres : (behindM c p) = r) : Calls Tryz.prog 21 #[.agg (cyC c p)] w fun e w' => e = .returned (.agg (cpC r)) ∧ Below w.heap.size w w' := by
  have hb := fun v t => ybehind v c hc p hp t hm
  obtain ⟨R, hR⟩ : ∃ R, behindM c p = R := ⟨_, rfl⟩
  rw [hR] at hb hres
  have tb' : Hid (Tabs w) := tb
  have h2' : ((R.Ph : Int) == 2) = false := by rw [← hR]; simp; omega
  have h3' : ((R.Ph : Int) == 3) = false := by rw [← hR]; simp; omega
  rw [hR] at hie
  have h5' : (c.Ph : Int) = 5 := by omega
  subst hres
  have zz := zeroVC
  have hF : Hid (Fy w w.heap.size c p (w.heap.size + 1) zeroC ((w.alloc (.cells (cyC c p) 52)).alloc (.cells (cpC zeroC) 26))) := Fy.start w c p
  clear hc hp tb hm hR h2 h3 h5
  go_enter Tryz.func21, Tryz.ntmps21
  go_wp2_with (first
    | (refine gen_world ((w.alloc (.cells (cyC c p) 52)).alloc (.cells (cpC zeroC) 26)) (Fy w w.heap.size c p (w.heap.size + 1) zeroC) hF.out ?_; intro y K)
    | (refine at_loadY w.heap.size c p K.out.yb _ rfl rfl rfl ?_)
    | (go_at_call 28; refine (hb _ (tb'.out.below K.out.low)).mono ?_; rintro e v1 ⟨rfl, hb1⟩; replace K : Hid _ := K.out.below hb1)
    | (refine gen_world (v1.alloc (.cells (cpC zeroC) 26)) (Fz w w.heap.size c p (w.heap.size + 1) zeroC v1.heap.size zeroC) (Fz.new K.out zeroC) ?_; intro y2 K2)
    | (refine at_storeC v1.heap.size zeroC R K2.out.l _ _ rfl rfl rfl rfl ?_; intro y3 hw3; have K3 : Hid (Fz w w.heap.size c p (w.heap.size + 1) zeroC v1.heap.size R y3) := K2.out.putL hw3.out; have d25 := K3.out.l.fPh; have f25 := K3.out.l.fz 25; have d21 := K3.out.l.fIE; have d32 := K3.out.f.yb.fDI; have d33 := K3.out.f.yb.fDO; have d34 := K3.out.f.yb.fInt; have e25 := K3.out.f.yb.fPh; rw [hd] at d32; rw [ho] at d33; rw [hi] at d34; rw [hie] at d21; rw [h5'] at e25; have K9 := K3)
    | (refine at_loadC v1.heap.size _ K9.out.l _ rfl rfl rfl ?_)
    | (refine at_storeC (w.heap.size + 1) zeroC _ K9.out.f.z _ _ rfl rfl rfl rfl ?_; intro w2 hw2))
  refine retC Tryz.results21 rfl hw2.out.1 rfl ⟨rfl, K9.out.f.low.trans (hw2.out.2.1 _ K9.out.f.l2)⟩

theorem ybrun_no4 (w : World) (c : Cp) (hc : c.wf) (p : Pn) (hp : p.wf) (tb : Tabs w) (hm : mayM c) (h2 : (behindM c p).Ph ≠ 2) (h3 : (behindM c p).Ph ≠ 3) (hd : p.DI = false) (ho : p.DO = false) (hi : p.Int_ = true) (hie : (behindM c p).IE = true) (h8 : c.Ph = 8) (r : Cp) (hres : (behindM c p) = r) : Calls Tryz.prog 21 #[.agg (cyC c p)] w fun e w' => e = .returned (.agg (cpC r)) ∧ Below w.heap.size w w' := by
  have hb := fun v t => ybehind v c hc p hp t hm
  obtain ⟨R, hR⟩ : ∃ R, behindM c p = R := ⟨_, rfl⟩
  rw [hR] at hb hres
  have tb' : Hid (Tabs w) := tb
  have h2' : ((R.Ph : Int) == 2) = false := by rw [← hR]; simp; omega
  have h3' : ((R.Ph : Int) == 3) = false := by rw [← hR]; simp; omega
  rw [hR] at hie
  have h8' : (c.Ph : Int) = 8 := by omega
  subst hres
  have zz := zeroVC
  have hF : Hid (Fy w w.heap.size c p (w.heap.size + 1) zeroC ((w.alloc (.cells (cyC c p) 52)).alloc (.cells (cpC zeroC) 26))) := Fy.start w c p
  clear hc hp tb hm hR h2 h3 h8
  go_enter Tryz.func21, Tryz.ntmps21
  go_wp2_with (first
    | (refine gen_world ((w.alloc (.cells (cyC c p) 52)).alloc (.cells (cpC zeroC) 26)) (Fy w w.heap.size c p (w.heap.size + 1) zeroC) hF.out ?_; intro y K)
    | (refine at_loadY w.heap.size c p K.out.yb _ rfl rfl rfl ?_)
    | (go_at_call 28; refine (hb _ (tb'.out.below K.out.low)).mono ?_; rintro e v1 ⟨rfl, hb1⟩; replace K : Hid _ := K.out.below hb1)
    | (refine gen_world (v1.alloc (.cells (cpC zeroC) 26)) (Fz w w.heap.size c p (w.heap.size + 1) zeroC v1.heap.size zeroC) (Fz.new K.out zeroC) ?_; intro y2 K2)
    | (refine at_storeC v1.heap.size zeroC R K2.out.l _ _ rfl rfl rfl rfl ?_; intro y3 hw3; have K3 : Hid (Fz w w.heap.size c p (w.heap.size + 1) zeroC v1.heap.size R y3) := K2.out.putL hw3.out; have d25 := K3.out.l.fPh; have f25 := K3.out.l.fz 25; have d21 := K3.out.l.fIE; have d32 := K3.out.f.yb.fDI; have d33 := K3.out.f.yb.fDO; have d34 := K3.out.f.yb.fInt; have e25 := K3.out.f.yb.fPh; rw [hd] at d32; rw [ho] at d33; rw [hi] at d34; rw [hie] at d21; rw [h8'] at e25; have K9 := K3)
    | (refine at_loadC v1.heap.size _ K9.out.l _ rfl rfl rfl ?_)
    | (refine at_storeC (w.heap.size + 1) zeroC _ K9.out.f.z _ _ rfl rfl rfl rfl ?_; intro w2 hw2))
  refine retC Tryz.results21 rfl hw2.out.1 rfl ⟨rfl, K9.out.f.low.trans (hw2.out.2.1 _ K9.out.f.l2)⟩

end Go.Proofs.YtbeeefekndcgnaaGreatDoor
