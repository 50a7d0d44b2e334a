/- A cycle's behind: all phases but the execute cycles. -/
import Derived.Test.YtbeeefekndcgnaaGreatDoorCy
import Derived.Test.YtbeeefekndcgnaaGreatDoorPl
import Derived.Test.YtbeeefekndcgnaaGreatDoorYm
namespace Go.Proofs.YtbeeefekndcgnaaGreatDoor
open Go Go.RowKit
set_option linter.unusedVariables false
set_option maxHeartbeats 1000000
set_option maxRecDepth 20000

def behindM (c : Cp) (p : Pn) : Cp :=
  match c.Ph with
  | 1 => { ({ c with Op := p.Data.toNat }.up c.P) with Ph := 2 }
  | 2 => { doesM c p with Ph := if c.Op / 16 = 12 then 3 else if c.Op = 0 then 4 else 1 }
  | 3 => { long2M c p with Ph := 1 }
  | 4 => { c with Ph := 4 }
  | 5 => { begunM c with Ph := 1 }
  | 6 => { c.up 0 with Ph := 1 }
  | 7 => { c.up 0 with Ph := 1 }
  | 8 => { c with T := 16 * (c.X : Int) + c.P, P := 1, X := 2, IE := false, Ph := 1 }
  | _ => c
theorem ybehind4 (w : World) (c : Cp) (hc : c.wf) (p : Pn) (hp : p.wf) (h : c.Ph = 4) : Calls Tryz.prog 28 #[.agg (cyC c p)] w fun e w' => e = .returned (.agg (cpC { c with Ph := 4 })) ∧ Below w.heap.size w w' := by
  have hph : (c.Ph : Int) = 4 := by omega
  have zz := zeroVC
  have hF : Hid (Fy w w.heap.size c p (w.heap.size + 1) zeroC ((w.alloc (.cells (cyC c p) 52)).alloc (.cells (cpC zeroC) 26))) := Fy.start w c p
  clear hc hp h
  go_enter Tryz.func28, Tryz.ntmps28
  go_wp2_with (first
    | (refine gen_world ((w.alloc (.cells (cyC c p) 52)).alloc (.cells (cpC zeroC) 26)) (Fy w w.heap.size c p (w.heap.size + 1) zeroC) hF.out ?_; intro y K)
    | (refine at_loadYC w.heap.size _ p K.out.yb _ rfl rfl rfl ?_)
    | (refine gen_world (y.alloc (.cells (cpC zeroC) 26)) (Fz w w.heap.size c p (w.heap.size + 1) zeroC y.heap.size zeroC) (Fz.new K.out zeroC) ?_; intro y2 K2)
    | (refine at_storeC y.heap.size zeroC c K2.out.l _ _ rfl rfl rfl rfl ?_; intro y3 hw3; have K3 : Hid (Fz w w.heap.size c p (w.heap.size + 1) zeroC y.heap.size c y3) := K2.out.putL hw3.out; have e25 := K3.out.f.yb.fPh; rw [hph] at e25; have d25 := K3.out.l.fPh; have f25 := K3.out.l.fz 25; have K9 : Hid (Fz w w.heap.size c p (w.heap.size + 1) zeroC y.heap.size { c with Ph := 4 } (y3.setCell ⟨y.heap.size, 25, none⟩ (.int .u8 4))) := K3.out.setL 25 _ (cpC_setPh c 4))
    | (refine at_loadC y.heap.size _ K9.out.l _ rfl rfl rfl ?_)
    | (refine at_storeC (w.heap.size + 1) zeroC _ K9.out.f.z _ _ rfl rfl rfl rfl ?_; intro w2 hw2))
  refine retC Tryz.results28 rfl hw2.out.1 rfl ⟨rfl, K9.out.f.low.trans (hw2.out.2.1 _ K9.out.f.l2)⟩

theorem ybehind5 (w : World) (c : Cp) (hc : c.wf) (p : Pn) (hp : p.wf) (h : c.Ph = 5) : Calls Tryz.prog 28 #[.agg (cyC c p)] w fun e w' => e = .returned (.agg (cpC { begunM c with Ph := 1 })) ∧ Below w.heap.size w w' := by
  have hph : (c.Ph : Int) = 5 := by omega
  have zz := zeroVC
  have hF : Hid (Fy w w.heap.size c p (w.heap.size + 1) zeroC ((w.alloc (.cells (cyC c p) 52)).alloc (.cells (cpC zeroC) 26))) := Fy.start w c p
  clear hc hp h
  go_enter Tryz.func28, Tryz.ntmps28
  go_wp2_with (first
    | (refine gen_world ((w.alloc (.cells (cyC c p) 52)).alloc (.cells (cpC zeroC) 26)) (Fy w w.heap.size c p (w.heap.size + 1) zeroC) hF.out ?_; intro y K)
    | (refine at_loadYC w.heap.size _ p K.out.yb _ rfl rfl rfl ?_)
    | (refine gen_world (y.alloc (.cells (cpC zeroC) 26)) (Fz w w.heap.size c p (w.heap.size + 1) zeroC y.heap.size zeroC) (Fz.new K.out zeroC) ?_; intro y2 K2)
    | (refine at_storeC y.heap.size zeroC c K2.out.l _ _ rfl rfl rfl rfl ?_; intro y3 hw3; have K3 : Hid (Fz w w.heap.size c p (w.heap.size + 1) zeroC y.heap.size c y3) := K2.out.putL hw3.out; have e25 := K3.out.f.yb.fPh; rw [hph] at e25; have d19 := K3.out.l.fX; have f19 := K3.out.l.fz 19; have d18 := K3.out.l.fP; have f18 := K3.out.l.fz 18; have d0 := K3.out.l.r 0 (by decide); have f0 := K3.out.l.fz 0; have K4 : Hid (Fz w w.heap.size c p (w.heap.size + 1) zeroC y.heap.size { c with X := 0 } (y3.setCell ⟨y.heap.size, 19, none⟩ (.int .u8 0))) := K3.out.setL 19 _ (cpC_setX c 0); have K5 : Hid (Fz w w.heap.size c p (w.heap.size + 1) zeroC y.heap.size { c with X := 0, P := 0 } ((y3.setCell ⟨y.heap.size, 19, none⟩ (.int .u8 0)).setCell ⟨y.heap.size, 18, none⟩ (.int .u8 0))) := K4.out.setL 18 _ (cpC_setP { c with X := 0 } 0); have K6 : Hid (Fz w w.heap.size c p (w.heap.size + 1) zeroC y.heap.size (begunM c) (((y3.setCell ⟨y.heap.size, 19, none⟩ (.int .u8 0)).setCell ⟨y.heap.size, 18, none⟩ (.int .u8 0)).setCell ⟨y.heap.size, 0, none⟩ (.int .u16 0))) := K5.out.setL 0 _ (cpC_setR { c with X := 0, P := 0 } 0 (by decide) 0))
    | (refine gen_world (((y3.setCell ⟨y.heap.size, 19, none⟩ (.int .u8 0)).setCell ⟨y.heap.size, 18, none⟩ (.int .u8 0)).setCell ⟨y.heap.size, 0, none⟩ (.int .u16 0)) (Fz w w.heap.size c p (w.heap.size + 1) zeroC y.heap.size (begunM c)) K6.out ?_; intro y7 K7; have d25 := K7.out.l.fPh; have f25 := K7.out.l.fz 25; have K9 : Hid (Fz w w.heap.size c p (w.heap.size + 1) zeroC y.heap.size { (begunM c) with Ph := 1 } (y7.setCell ⟨y.heap.size, 25, none⟩ (.int .u8 1))) := K7.out.setL 25 _ (cpC_setPh (begunM c) 1))
    | (refine at_loadC y.heap.size _ K9.out.l _ rfl rfl rfl ?_)
    | (refine at_storeC (w.heap.size + 1) zeroC _ K9.out.f.z _ _ rfl rfl rfl rfl ?_; intro w2 hw2))
  refine retC Tryz.results28 rfl hw2.out.1 rfl ⟨rfl, K9.out.f.low.trans (hw2.out.2.1 _ K9.out.f.l2)⟩

theorem ybehind6 (w : World) (c : Cp) (hc : c.wf) (p : Pn) (hp : p.wf) (h : c.Ph = 6) : Calls Tryz.prog 28 #[.agg (cyC c p)] w fun e w' => e = .returned (.agg (cpC { c.up 0 with Ph := 1 })) ∧ Below w.heap.size w w' := by
  have hph : (c.Ph : Int) = 6 := by omega
  have zz := zeroVC
  have hF : Hid (Fy w w.heap.size c p (w.heap.size + 1) zeroC ((w.alloc (.cells (cyC c p) 52)).alloc (.cells (cpC zeroC) 26))) := Fy.start w c p
  clear hc hp h
  go_enter Tryz.func28, Tryz.ntmps28
  go_wp2_with (first
    | (refine gen_world ((w.alloc (.cells (cyC c p) 52)).alloc (.cells (cpC zeroC) 26)) (Fy w w.heap.size c p (w.heap.size + 1) zeroC) hF.out ?_; intro y K)
    | (refine at_loadYC w.heap.size _ p K.out.yb _ rfl rfl rfl ?_)
    | (refine gen_world (y.alloc (.cells (cpC zeroC) 26)) (Fz w w.heap.size c p (w.heap.size + 1) zeroC y.heap.size zeroC) (Fz.new K.out zeroC) ?_; intro y2 K2)
    | (refine at_storeC y.heap.size zeroC c K2.out.l _ _ rfl rfl rfl rfl ?_; intro y3 hw3; have K3 : Hid (Fz w w.heap.size c p (w.heap.size + 1) zeroC y.heap.size c y3) := K2.out.putL hw3.out; have e25 := K3.out.f.yb.fPh; rw [hph] at e25; have d0 := K3.out.l.r 0 (by decide); have f0 := K3.out.l.fz 0; have K4 : Hid (Fz w w.heap.size c p (w.heap.size + 1) zeroC y.heap.size (c.up 0) (y3.setCell ⟨y.heap.size, 0, none⟩ (.int .u16 (IntKind.u16.wrap (c.R 0 + 1))))) := K3.out.setL 0 _ (cpC_up c 0 (by decide)))
    | (refine gen_world (y3.setCell ⟨y.heap.size, 0, none⟩ (.int .u16 (IntKind.u16.wrap (c.R 0 + 1)))) (Fz w w.heap.size c p (w.heap.size + 1) zeroC y.heap.size (c.up 0)) K4.out ?_; intro y7 K7; have d25 := K7.out.l.fPh; have f25 := K7.out.l.fz 25; have K9 : Hid (Fz w w.heap.size c p (w.heap.size + 1) zeroC y.heap.size { (c.up 0) with Ph := 1 } (y7.setCell ⟨y.heap.size, 25, none⟩ (.int .u8 1))) := K7.out.setL 25 _ (cpC_setPh (c.up 0) 1))
    | (refine at_loadC y.heap.size _ K9.out.l _ rfl rfl rfl ?_)
    | (refine at_storeC (w.heap.size + 1) zeroC _ K9.out.f.z _ _ rfl rfl rfl rfl ?_; intro w2 hw2))
  refine retC Tryz.results28 rfl hw2.out.1 rfl ⟨rfl, K9.out.f.low.trans (hw2.out.2.1 _ K9.out.f.l2)⟩

theorem ybehind7 (w : World) (c : Cp) (hc : c.wf) (p : Pn) (hp : p.wf) (h : c.Ph = 7) : Calls Tryz.prog 28 #[.agg (cyC c p)] w fun e w' => e = .returned (.agg (cpC { c.up 0 with Ph := 1 })) ∧ Below w.heap.size w w' := by
  have hph : (c.Ph : Int) = 7 := by omega
  have zz := zeroVC
  have hF : Hid (Fy w w.heap.size c p (w.heap.size + 1) zeroC ((w.alloc (.cells (cyC c p) 52)).alloc (.cells (cpC zeroC) 26))) := Fy.start w c p
  clear hc hp h
  go_enter Tryz.func28, Tryz.ntmps28
  go_wp2_with (first
    | (refine gen_world ((w.alloc (.cells (cyC c p) 52)).alloc (.cells (cpC zeroC) 26)) (Fy w w.heap.size c p (w.heap.size + 1) zeroC) hF.out ?_; intro y K)
    | (refine at_loadYC w.heap.size _ p K.out.yb _ rfl rfl rfl ?_)
    | (refine gen_world (y.alloc (.cells (cpC zeroC) 26)) (Fz w w.heap.size c p (w.heap.size + 1) zeroC y.heap.size zeroC) (Fz.new K.out zeroC) ?_; intro y2 K2)
    | (refine at_storeC y.heap.size zeroC c K2.out.l _ _ rfl rfl rfl rfl ?_; intro y3 hw3; have K3 : Hid (Fz w w.heap.size c p (w.heap.size + 1) zeroC y.heap.size c y3) := K2.out.putL hw3.out; have e25 := K3.out.f.yb.fPh; rw [hph] at e25; have d0 := K3.out.l.r 0 (by decide); have f0 := K3.out.l.fz 0; have K4 : Hid (Fz w w.heap.size c p (w.heap.size + 1) zeroC y.heap.size (c.up 0) (y3.setCell ⟨y.heap.size, 0, none⟩ (.int .u16 (IntKind.u16.wrap (c.R 0 + 1))))) := K3.out.setL 0 _ (cpC_up c 0 (by decide)))
    | (refine gen_world (y3.setCell ⟨y.heap.size, 0, none⟩ (.int .u16 (IntKind.u16.wrap (c.R 0 + 1)))) (Fz w w.heap.size c p (w.heap.size + 1) zeroC y.heap.size (c.up 0)) K4.out ?_; intro y7 K7; have d25 := K7.out.l.fPh; have f25 := K7.out.l.fz 25; have K9 : Hid (Fz w w.heap.size c p (w.heap.size + 1) zeroC y.heap.size { (c.up 0) with Ph := 1 } (y7.setCell ⟨y.heap.size, 25, none⟩ (.int .u8 1))) := K7.out.setL 25 _ (cpC_setPh (c.up 0) 1))
    | (refine at_loadC y.heap.size _ K9.out.l _ rfl rfl rfl ?_)
    | (refine at_storeC (w.heap.size + 1) zeroC _ K9.out.f.z _ _ rfl rfl rfl rfl ?_; intro w2 hw2))
  refine retC Tryz.results28 rfl hw2.out.1 rfl ⟨rfl, K9.out.f.low.trans (hw2.out.2.1 _ K9.out.f.l2)⟩

theorem ybehind8 (w : World) (c : Cp) (hc : c.wf) (p : Pn) (hp : p.wf) (hP : c.P < 16) (hX : c.X < 16) (h : c.Ph = 8) : Calls Tryz.prog 28 #[.agg (cyC c p)] w fun e w' => e = .returned (.agg (cpC { c with T := 16 * (c.X : Int) + c.P, P := 1, X := 2, IE := false, Ph := 1 })) ∧ Below w.heap.size w w' := by
  have hph : (c.Ph : Int) = 8 := by omega
  have hBo := fun v => yboth v c hc p hp hP hX
  obtain ⟨V, hV⟩ : ∃ V, 16 * (c.X : Int) + (c.P : Int) = V := ⟨_, rfl⟩
  rw [hV] at hBo ⊢
  have zz := zeroVC
  have hF : Hid (Fy w w.heap.size c p (w.heap.size + 1) zeroC ((w.alloc (.cells (cyC c p) 52)).alloc (.cells (cpC zeroC) 26))) := Fy.start w c p
  clear hc hp hP hX h hV
  go_enter Tryz.func28, Tryz.ntmps28
  go_wp2_with (first
    | (refine gen_world ((w.alloc (.cells (cyC c p) 52)).alloc (.cells (cpC zeroC) 26)) (Fy w w.heap.size c p (w.heap.size + 1) zeroC) hF.out ?_; intro y K)
    | (refine at_loadYC w.heap.size _ p K.out.yb _ rfl rfl rfl ?_)
    | (refine gen_world (y.alloc (.cells (cpC zeroC) 26)) (Fz w w.heap.size c p (w.heap.size + 1) zeroC y.heap.size zeroC) (Fz.new K.out zeroC) ?_; intro y2 K2)
    | (refine at_storeC y.heap.size zeroC c K2.out.l _ _ rfl rfl rfl rfl ?_; intro y3 hw3; have K3 : Hid (Fz w w.heap.size c p (w.heap.size + 1) zeroC y.heap.size c y3) := K2.out.putL hw3.out; have e25 := K3.out.f.yb.fPh; rw [hph] at e25; skip)
    | (refine at_loadY w.heap.size c p K3.out.f.yb _ rfl rfl rfl ?_)
    | (go_at_call 41; refine (hBo _).mono ?_; rintro e v4 ⟨rfl, hbv4⟩; replace K3 : Hid _ := K3.out.below hbv4; have d20 := K3.out.l.fT; have f20 := K3.out.l.fz 20; have K4 : Hid (Fz w w.heap.size c p (w.heap.size + 1) zeroC y.heap.size { c with T := V } (v4.setCell ⟨y.heap.size, 20, none⟩ (.int .u8 V))) := K3.out.setL 20 _ (cpC_setT c V))
    | (refine gen_world (v4.setCell ⟨y.heap.size, 20, none⟩ (.int .u8 V)) (Fz w w.heap.size c p (w.heap.size + 1) zeroC y.heap.size { c with T := V }) K4.out ?_; intro y5 K5; have d18 := K5.out.l.fP; have f18 := K5.out.l.fz 18; have d19 := K5.out.l.fX; have f19 := K5.out.l.fz 19; have d21 := K5.out.l.fIE; have f21 := K5.out.l.fz 21; have K6 : Hid (Fz w w.heap.size c p (w.heap.size + 1) zeroC y.heap.size { c with T := V, P := 1 } (y5.setCell ⟨y.heap.size, 18, none⟩ (.int .u8 1))) := K5.out.setL 18 _ (cpC_setP { c with T := V } 1); have K7 : Hid (Fz w w.heap.size c p (w.heap.size + 1) zeroC y.heap.size { c with T := V, P := 1, X := 2 } ((y5.setCell ⟨y.heap.size, 18, none⟩ (.int .u8 1)).setCell ⟨y.heap.size, 19, none⟩ (.int .u8 2))) := K6.out.setL 19 _ (cpC_setX { c with T := V, P := 1 } 2); have K8 : Hid (Fz w w.heap.size c p (w.heap.size + 1) zeroC y.heap.size { c with T := V, P := 1, X := 2, IE := false } (((y5.setCell ⟨y.heap.size, 18, none⟩ (.int .u8 1)).setCell ⟨y.heap.size, 19, none⟩ (.int .u8 2)).setCell ⟨y.heap.size, 21, none⟩ (.bool false))) := K7.out.setL 21 _ (cpC_setIE { c with T := V, P := 1, X := 2 } false))
    | (refine gen_world (((y5.setCell ⟨y.heap.size, 18, none⟩ (.int .u8 1)).setCell ⟨y.heap.size, 19, none⟩ (.int .u8 2)).setCell ⟨y.heap.size, 21, none⟩ (.bool false)) (Fz w w.heap.size c p (w.heap.size + 1) zeroC y.heap.size { c with T := V, P := 1, X := 2, IE := false }) K8.out ?_; intro y7 K10; have d25 := K10.out.l.fPh; have f25 := K10.out.l.fz 25; have K9 : Hid (Fz w w.heap.size c p (w.heap.size + 1) zeroC y.heap.size { { c with T := V, P := 1, X := 2, IE := false } with Ph := 1 } (y7.setCell ⟨y.heap.size, 25, none⟩ (.int .u8 1))) := K10.out.setL 25 _ (cpC_setPh { c with T := V, P := 1, X := 2, IE := false } 1))
    | (refine at_loadC y.heap.size _ K9.out.l _ rfl rfl rfl ?_)
    | (refine at_storeC (w.heap.size + 1) zeroC _ K9.out.f.z _ _ rfl rfl rfl rfl ?_; intro w2 hw2))
  refine retC Tryz.results28 rfl hw2.out.1 rfl ⟨rfl, K9.out.f.low.trans (hw2.out.2.1 _ K9.out.f.l2)⟩

theorem ybehind1 (w : World) (c : Cp) (hc : c.wf) (p : Pn) (hp : p.wf) (hP : c.P < 16) (h : c.Ph = 1) : Calls Tryz.prog 28 #[.agg (cyC c p)] w fun e w' => e = .returned (.agg (cpC { ({ c with Op := p.Data.toNat }.up c.P) with Ph := 2 })) ∧ Below w.heap.size w w' := by
  have hph : (c.Ph : Int) = 1 := by omega
  have hd := hp.Data
  obtain ⟨D, hD⟩ : ∃ D : Nat, p.Data = D := ⟨p.Data.toNat, by omega⟩
  have hD' : p.Data.toNat = D := by omega
  rw [hD']
  have ixl : Hid (∀ g v, (Instr.indexAt 23 (.pointer (some ⟨g, 0, none⟩)) (.int .u8 (c.P : Int))).run Tryz.prog v = .ok (.pointer (some ⟨g, c.P, none⟩)) v) := fun g v => by have := idx (g := g) (off := 0) (N := 16) Tryz.underlying23 infoR .u8 c.P v hP; simpa using this
  have hS : Hid ((cpC { c with Op := D }).setIfInBounds c.P (.int .u16 (IntKind.u16.wrap (c.R c.P + 1))) = cpC ({ c with Op := D }.up c.P)) := cpC_up { c with Op := D } c.P hP
  have hR' : Hid (∀ b x, BoxC x b { c with Op := D } → x.cell? ⟨b, c.P, none⟩ = some (.int .u16 (c.R c.P))) := fun b x h => h.r c.P hP
  have zz := zeroVC
  have hF : Hid (Fy w w.heap.size c p (w.heap.size + 1) zeroC ((w.alloc (.cells (cyC c p) 52)).alloc (.cells (cpC zeroC) 26))) := Fy.start w c p
  clear hc hp hP h hd hD'
  go_enter Tryz.func28, Tryz.ntmps28
  go_wp2_with (first
    | (refine gen_world ((w.alloc (.cells (cyC c p) 52)).alloc (.cells (cpC zeroC) 26)) (Fy w w.heap.size c p (w.heap.size + 1) zeroC) hF.out ?_; intro y K)
    | (refine at_loadYC w.heap.size _ p K.out.yb _ rfl rfl rfl ?_)
    | (refine gen_world (y.alloc (.cells (cpC zeroC) 26)) (Fz w w.heap.size c p (w.heap.size + 1) zeroC y.heap.size zeroC) (Fz.new K.out zeroC) ?_; intro y2 K2)
    | (refine at_storeC y.heap.size zeroC c K2.out.l _ _ rfl rfl rfl rfl ?_; intro y3 hw3; have K3 : Hid (Fz w w.heap.size c p (w.heap.size + 1) zeroC y.heap.size c y3) := K2.out.putL hw3.out; have e25 := K3.out.f.yb.fPh; rw [hph] at e25; have d27 := K3.out.f.yb.fData; rw [hD] at d27; have d23 := K3.out.l.fOp; have f23 := K3.out.l.fz 23; have K4 : Hid (Fz w w.heap.size c p (w.heap.size + 1) zeroC y.heap.size { c with Op := D } (y3.setCell ⟨y.heap.size, 23, none⟩ (.int .u8 (D : Int)))) := K3.out.setL 23 _ (cpC_setOp c D))
    | (refine gen_world (y3.setCell ⟨y.heap.size, 23, none⟩ (.int .u8 (D : Int))) (Fz w w.heap.size c p (w.heap.size + 1) zeroC y.heap.size { c with Op := D }) K4.out ?_; intro y5 K5; have d18 : y5.cell? ⟨y.heap.size, 18, none⟩ = some (.int .u8 (c.P : Int)) := K5.out.l.fP; have dq := hR'.out _ _ K5.out.l; have fq := K5.out.l.fz c.P; have ix := ixl.out y.heap.size; have K6 : Hid (Fz w w.heap.size c p (w.heap.size + 1) zeroC y.heap.size ({ c with Op := D }.up c.P) (y5.setCell ⟨y.heap.size, c.P, none⟩ (.int .u16 (IntKind.u16.wrap (c.R c.P + 1))))) := K5.out.setL c.P _ hS.out)
    | (refine gen_world (y5.setCell ⟨y.heap.size, c.P, none⟩ (.int .u16 (IntKind.u16.wrap (c.R c.P + 1)))) (Fz w w.heap.size c p (w.heap.size + 1) zeroC y.heap.size ({ c with Op := D }.up c.P)) K6.out ?_; intro y7 K7; have d25 := K7.out.l.fPh; have f25 := K7.out.l.fz 25; have K9 : Hid (Fz w w.heap.size c p (w.heap.size + 1) zeroC y.heap.size { ({ c with Op := D }.up c.P) with Ph := 2 } (y7.setCell ⟨y.heap.size, 25, none⟩ (.int .u8 2))) := K7.out.setL 25 _ (cpC_setPh ({ c with Op := D }.up c.P) 2))
    | (refine at_loadC y.heap.size _ K9.out.l _ rfl rfl rfl ?_)
    | (refine at_storeC (w.heap.size + 1) zeroC _ K9.out.f.z _ _ rfl rfl rfl rfl ?_; intro w2 hw2))
  refine retC Tryz.results28 rfl hw2.out.1 rfl ⟨rfl, K9.out.f.low.trans (hw2.out.2.1 _ K9.out.f.l2)⟩

end Go.Proofs.YtbeeefekndcgnaaGreatDoor
