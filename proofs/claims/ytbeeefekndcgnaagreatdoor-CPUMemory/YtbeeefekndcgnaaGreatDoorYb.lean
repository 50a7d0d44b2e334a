/- A cycle's methods that write one or two cells. -/
import Derived.Test.YtbeeefekndcgnaaGreatDoorCy
import Derived.Test.YtbeeefekndcgnaaGreatDoorPl
import Derived.Test.YtbeeefekndcgnaaGreatDoorYa
namespace Go.Proofs.YtbeeefekndcgnaaGreatDoor
open Go Go.RowKit
set_option linter.unusedVariables false
set_option maxHeartbeats 1000000
set_option maxRecDepth 20000

theorem ynothing (w : World) (c : Cp) (hc : c.wf) (p : Pn) (hp : p.wf) : Calls Tryz.prog 57 #[.agg (cyC c p)] w fun e w' => e = .returned (.agg (cpC c)) ∧ Below w.heap.size w w' := by
  have zz := zeroVC
  have hF : Hid (Fy w w.heap.size c p (w.heap.size + 1) zeroC ((w.alloc (.cells (cyC c p) 52)).alloc (.cells (cpC zeroC) 26))) := Fy.start w c p
  clear hc hp
  go_enter Tryz.func57, Tryz.ntmps57
  go_wp2_with (first
    | (refine gen_world ((w.alloc (.cells (cyC c p) 52)).alloc (.cells (cpC zeroC) 26)) (Fy w w.heap.size c p (w.heap.size + 1) zeroC) hF.out ?_; intro y K)
    | (refine at_loadYC w.heap.size _ p K.out.yb _ rfl rfl rfl ?_)
    | (refine at_loadY w.heap.size c p K.out.yb _ rfl rfl rfl ?_)
    | (refine at_storeC (w.heap.size + 1) zeroC c K.out.z _ _ rfl rfl rfl rfl ?_; intro w2 hw2))
  refine retC Tryz.results57 rfl hw2.out.1 rfl ⟨rfl, K.out.low.trans (hw2.out.2.1 _ K.out.l2)⟩

theorem yloadN1 (w : World) (c : Cp) (hc : c.wf) (p : Pn) (hp : p.wf) (h0 : c.Op ≠ 0) : Calls Tryz.prog 52 #[.agg (cyC c p)] w fun e w' => e = .returned (.agg (cpC { c with D := p.Data })) ∧ Below w.heap.size w w' := by
  have h0' : ((c.Op : Int) != 0) = true := by simp; omega
  have zz := zeroVC
  have hF : Hid (Fy w w.heap.size c p (w.heap.size + 1) zeroC ((w.alloc (.cells (cyC c p) 52)).alloc (.cells (cpC zeroC) 26))) := Fy.start w c p
  clear hc hp h0
  go_enter Tryz.func52, Tryz.ntmps52
  go_wp2_with (first
    | (refine gen_world ((w.alloc (.cells (cyC c p) 52)).alloc (.cells (cpC zeroC) 26)) (Fy w w.heap.size c p (w.heap.size + 1) zeroC) hF.out ?_; intro y K; have d1 := K.out.yb.fOp; have d2 := K.out.yb.fData; have d3 := K.out.yb.fD; have f16 := K.out.yb.fz 16; have K1 : Hid (Fy w w.heap.size { c with D := p.Data } p (w.heap.size + 1) zeroC (y.setCell ⟨w.heap.size, 16, none⟩ (.int .u8 p.Data))) := K.out.setC 16 _ (cyC_setD c p p.Data))
    | (refine at_loadYC w.heap.size _ p K1.out.yb _ rfl rfl rfl ?_)
    | (refine at_loadY w.heap.size c p K.out.yb _ rfl rfl rfl ?_)
    | (refine at_storeC (w.heap.size + 1) zeroC { c with D := p.Data } K1.out.z _ _ rfl rfl rfl rfl ?_; intro w2 hw2))
  refine retC Tryz.results52 rfl hw2.out.1 rfl ⟨rfl, K1.out.low.trans (hw2.out.2.1 _ K1.out.l2)⟩

theorem yloadN0 (w : World) (c : Cp) (hc : c.wf) (p : Pn) (hp : p.wf) (h0 : c.Op = 0) : Calls Tryz.prog 52 #[.agg (cyC c p)] w fun e w' => e = .returned (.agg (cpC c)) ∧ Below w.heap.size w w' := by
  have h0' : ((c.Op : Int) != 0) = false := by simp; omega
  have zz := zeroVC
  have hF : Hid (Fy w w.heap.size c p (w.heap.size + 1) zeroC ((w.alloc (.cells (cyC c p) 52)).alloc (.cells (cpC zeroC) 26))) := Fy.start w c p
  clear hc hp h0
  go_enter Tryz.func52, Tryz.ntmps52
  go_wp2_with (first
    | (refine gen_world ((w.alloc (.cells (cyC c p) 52)).alloc (.cells (cpC zeroC) 26)) (Fy w w.heap.size c p (w.heap.size + 1) zeroC) hF.out ?_; intro y K; have d1 := K.out.yb.fOp)
    | (refine at_loadYC w.heap.size _ p K.out.yb _ rfl rfl rfl ?_)
    | (refine at_loadY w.heap.size c p K.out.yb _ rfl rfl rfl ?_)
    | (refine at_storeC (w.heap.size + 1) zeroC c K.out.z _ _ rfl rfl rfl rfl ?_; intro w2 hw2))
  refine retC Tryz.results52 rfl hw2.out.1 rfl ⟨rfl, K.out.low.trans (hw2.out.2.1 _ K.out.l2)⟩

theorem yinc (w : World) (c : Cp) (hc : c.wf) (p : Pn) (hp : p.wf) : Calls Tryz.prog 53 #[.agg (cyC c p)] w fun e w' => e = .returned (.agg (cpC (c.up (c.Op % 16)))) ∧ Below w.heap.size w w' := by
  obtain ⟨q, hq⟩ : ∃ q, c.Op % 16 = q := ⟨_, rfl⟩
  have hq16 : q < 16 := by omega
  have hn := fun v => yn v c hc p hp
  rw [hq] at hn
  rw [hq]
  have hr := hc.R q
  have hq' : Hid (q < 16) := hq16
  have ix := fun v => idx (g := w.heap.size) (off := 0) (N := 16) Tryz.underlying23 infoR .u8 q v hq16
  simp only [Nat.zero_add, Nat.mul_one] at ix
  have hS : Hid ((cyC c p).setIfInBounds q (.int .u16 (IntKind.u16.wrap (c.R q + 1))) = cyC (c.up q) p) := cyC_up c p q hq16
  have hR' : Hid (∀ b x, BoxY x b c p → x.cell? ⟨b, q, none⟩ = some (.int .u16 (c.R q))) := fun b x h => h.r q hq16
  have zz := zeroVC
  have hF : Hid (Fy w w.heap.size c p (w.heap.size + 1) zeroC ((w.alloc (.cells (cyC c p) 52)).alloc (.cells (cpC zeroC) 26))) := Fy.start w c p
  clear hc hp hq hr hq16 hq'
  go_enter Tryz.func53, Tryz.ntmps53
  go_wp2_with (first
    | (refine gen_world ((w.alloc (.cells (cyC c p) 52)).alloc (.cells (cpC zeroC) 26)) (Fy w w.heap.size c p (w.heap.size + 1) zeroC) hF.out ?_; intro y K)
    | (go_at_call 81; refine (hn _).mono ?_; rintro e v1 ⟨rfl, hb1⟩; replace K : Hid _ := K.out.below hb1; have dq := hR'.out _ _ K.out.yb; have fq := K.out.yb.fz q; have K1 : Hid (Fy w w.heap.size (c.up q) p (w.heap.size + 1) zeroC (v1.setCell ⟨w.heap.size, q, none⟩ (.int .u16 (IntKind.u16.wrap (c.R q + 1))))) := K.out.setC q _ hS.out)
    | (refine at_loadYC w.heap.size _ p K1.out.yb _ rfl rfl rfl ?_)
    | (refine at_loadY w.heap.size c p K.out.yb _ rfl rfl rfl ?_)
    | (refine at_storeC (w.heap.size + 1) zeroC (c.up q) K1.out.z _ _ rfl rfl rfl rfl ?_; intro w2 hw2))
  refine retC Tryz.results53 rfl hw2.out.1 rfl ⟨rfl, K1.out.low.trans (hw2.out.2.1 _ K1.out.l2)⟩

theorem ydec (w : World) (c : Cp) (hc : c.wf) (p : Pn) (hp : p.wf) : Calls Tryz.prog 54 #[.agg (cyC c p)] w fun e w' => e = .returned (.agg (cpC (c.down (c.Op % 16)))) ∧ Below w.heap.size w w' := by
  obtain ⟨q, hq⟩ : ∃ q, c.Op % 16 = q := ⟨_, rfl⟩
  have hq16 : q < 16 := by omega
  have hn := fun v => yn v c hc p hp
  rw [hq] at hn
  rw [hq]
  have hr := hc.R q
  have hq' : Hid (q < 16) := hq16
  have ix := fun v => idx (g := w.heap.size) (off := 0) (N := 16) Tryz.underlying23 infoR .u8 q v hq16
  simp only [Nat.zero_add, Nat.mul_one] at ix
  have hS : Hid ((cyC c p).setIfInBounds q (.int .u16 (IntKind.u16.wrap (c.R q - 1))) = cyC (c.down q) p) := cyC_down c p q hq16
  have hR' : Hid (∀ b x, BoxY x b c p → x.cell? ⟨b, q, none⟩ = some (.int .u16 (c.R q))) := fun b x h => h.r q hq16
  have zz := zeroVC
  have hF : Hid (Fy w w.heap.size c p (w.heap.size + 1) zeroC ((w.alloc (.cells (cyC c p) 52)).alloc (.cells (cpC zeroC) 26))) := Fy.start w c p
  clear hc hp hq hr hq16 hq'
  go_enter Tryz.func54, Tryz.ntmps54
  go_wp2_with (first
    | (refine gen_world ((w.alloc (.cells (cyC c p) 52)).alloc (.cells (cpC zeroC) 26)) (Fy w w.heap.size c p (w.heap.size + 1) zeroC) hF.out ?_; intro y K)
    | (go_at_call 81; refine (hn _).mono ?_; rintro e v1 ⟨rfl, hb1⟩; replace K : Hid _ := K.out.below hb1; have dq := hR'.out _ _ K.out.yb; have fq := K.out.yb.fz q; have K1 : Hid (Fy w w.heap.size (c.down q) p (w.heap.size + 1) zeroC (v1.setCell ⟨w.heap.size, q, none⟩ (.int .u16 (IntKind.u16.wrap (c.R q - 1))))) := K.out.setC q _ hS.out)
    | (refine at_loadYC w.heap.size _ p K1.out.yb _ rfl rfl rfl ?_)
    | (refine at_loadY w.heap.size c p K.out.yb _ rfl rfl rfl ?_)
    | (refine at_storeC (w.heap.size + 1) zeroC (c.down q) K1.out.z _ _ rfl rfl rfl rfl ?_; intro w2 hw2))
  refine retC Tryz.results54 rfl hw2.out.1 rfl ⟨rfl, K1.out.low.trans (hw2.out.2.1 _ K1.out.l2)⟩

theorem yldxa (w : World) (c : Cp) (hc : c.wf) (p : Pn) (hp : p.wf) (hX : c.X < 16) : Calls Tryz.prog 95 #[.agg (cyC c p)] w fun e w' => e = .returned (.agg (cpC ({ c with D := p.Data }.up c.X))) ∧ Below w.heap.size w w' := by
  have ix := fun v => idx (g := w.heap.size) (off := 0) (N := 16) Tryz.underlying23 infoR .u8 c.X v hX
  simp only [Nat.zero_add, Nat.mul_one] at ix
  have hS : Hid ((cyC { c with D := p.Data } p).setIfInBounds c.X (.int .u16 (IntKind.u16.wrap (c.R c.X + 1))) = cyC ({ c with D := p.Data }.up c.X) p) := cyC_up _ p c.X hX
  have hR' : Hid (∀ b x, BoxY x b { c with D := p.Data } p → x.cell? ⟨b, c.X, none⟩ = some (.int .u16 (c.R c.X))) := fun b x h => h.r c.X hX
  have zz := zeroVC
  have hF : Hid (Fy w w.heap.size c p (w.heap.size + 1) zeroC ((w.alloc (.cells (cyC c p) 52)).alloc (.cells (cpC zeroC) 26))) := Fy.start w c p
  clear hc hp hX
  go_enter Tryz.func95, Tryz.ntmps95
  go_wp2_with (first
    | (refine gen_world ((w.alloc (.cells (cyC c p) 52)).alloc (.cells (cpC zeroC) 26)) (Fy w w.heap.size c p (w.heap.size + 1) zeroC) hF.out ?_; intro y K; have d2 := K.out.yb.fData; have d3 := K.out.yb.fD; have f16 := K.out.yb.fz 16; have K1 : Hid (Fy w w.heap.size { c with D := p.Data } p (w.heap.size + 1) zeroC (y.setCell ⟨w.heap.size, 16, none⟩ (.int .u8 p.Data))) := K.out.setC 16 _ (cyC_setD c p p.Data); have d19 := K.out.yb.fX; have dq := hR'.out _ _ K1.out.yb; have fq := K1.out.yb.fz c.X; have K2 : Hid (Fy w w.heap.size ({ c with D := p.Data }.up c.X) p (w.heap.size + 1) zeroC ((y.setCell ⟨w.heap.size, 16, none⟩ (.int .u8 p.Data)).setCell ⟨w.heap.size, c.X, none⟩ (.int .u16 (IntKind.u16.wrap (c.R c.X + 1))))) := K1.out.setC c.X _ hS.out)
    | (refine at_loadYC w.heap.size _ p K2.out.yb _ rfl rfl rfl ?_)
    | (refine at_loadY w.heap.size c p K.out.yb _ rfl rfl rfl ?_)
    | (refine at_storeC (w.heap.size + 1) zeroC ({ c with D := p.Data }.up c.X) K2.out.z _ _ rfl rfl rfl rfl ?_; intro w2 hw2))
  refine retC Tryz.results95 rfl hw2.out.1 rfl ⟨rfl, K2.out.low.trans (hw2.out.2.1 _ K2.out.l2)⟩

theorem ystxd (w : World) (c : Cp) (hc : c.wf) (p : Pn) (hp : p.wf) (hX : c.X < 16) : Calls Tryz.prog 96 #[.agg (cyC c p)] w fun e w' => e = .returned (.agg (cpC (c.down c.X))) ∧ Below w.heap.size w w' := by
  have ix := fun v => idx (g := w.heap.size) (off := 0) (N := 16) Tryz.underlying23 infoR .u8 c.X v hX
  simp only [Nat.zero_add, Nat.mul_one] at ix
  have hS : Hid ((cyC c p).setIfInBounds c.X (.int .u16 (IntKind.u16.wrap (c.R c.X - 1))) = cyC (c.down c.X) p) := cyC_down _ p c.X hX
  have hR' : Hid (∀ b x, BoxY x b c p → x.cell? ⟨b, c.X, none⟩ = some (.int .u16 (c.R c.X))) := fun b x h => h.r c.X hX
  have zz := zeroVC
  have hF : Hid (Fy w w.heap.size c p (w.heap.size + 1) zeroC ((w.alloc (.cells (cyC c p) 52)).alloc (.cells (cpC zeroC) 26))) := Fy.start w c p
  clear hc hp hX
  go_enter Tryz.func96, Tryz.ntmps96
  go_wp2_with (first
    | (refine gen_world ((w.alloc (.cells (cyC c p) 52)).alloc (.cells (cpC zeroC) 26)) (Fy w w.heap.size c p (w.heap.size + 1) zeroC) hF.out ?_; intro y K; have d19 := K.out.yb.fX; have dq := hR'.out _ _ K.out.yb; have fq := K.out.yb.fz c.X; have K1 : Hid (Fy w w.heap.size (c.down c.X) p (w.heap.size + 1) zeroC (y.setCell ⟨w.heap.size, c.X, none⟩ (.int .u16 (IntKind.u16.wrap (c.R c.X - 1))))) := K.out.setC c.X _ hS.out)
    | (refine at_loadYC w.heap.size _ p K1.out.yb _ rfl rfl rfl ?_)
    | (refine at_loadY w.heap.size c p K.out.yb _ rfl rfl rfl ?_)
    | (refine at_storeC (w.heap.size + 1) zeroC (c.down c.X) K1.out.z _ _ rfl rfl rfl rfl ?_; intro w2 hw2))
  refine retC Tryz.results96 rfl hw2.out.1 rfl ⟨rfl, K1.out.low.trans (hw2.out.2.1 _ K1.out.l2)⟩

theorem ylowQ (w : World) (c : Cp) (hc : c.wf) (p : Pn) (hp : p.wf) : Calls Tryz.prog 99 #[.agg (cyC c p)] w fun e w' => e = .returned (.agg (cpC { c with Q := false })) ∧ Below w.heap.size w w' := by
  have zz := zeroVC
  have hF : Hid (Fy w w.heap.size c p (w.heap.size + 1) zeroC ((w.alloc (.cells (cyC c p) 52)).alloc (.cells (cpC zeroC) 26))) := Fy.start w c p
  clear hc hp
  go_enter Tryz.func99, Tryz.ntmps99
  go_wp2_with (first
    | (refine gen_world ((w.alloc (.cells (cyC c p) 52)).alloc (.cells (cpC zeroC) 26)) (Fy w w.heap.size c p (w.heap.size + 1) zeroC) hF.out ?_; intro y K; have d1 := K.out.yb.fQ; have f1 := K.out.yb.fz 22; have K1 : Hid (Fy w w.heap.size { c with Q := false } p (w.heap.size + 1) zeroC (y.setCell ⟨w.heap.size, 22, none⟩ (.bool false))) := K.out.setC 22 _ (cyC_setQ c p false))
    | (refine at_loadYC w.heap.size _ p K1.out.yb _ rfl rfl rfl ?_)
    | (refine at_loadY w.heap.size c p K.out.yb _ rfl rfl rfl ?_)
    | (refine at_storeC (w.heap.size + 1) zeroC { c with Q := false } K1.out.z _ _ rfl rfl rfl rfl ?_; intro w2 hw2))
  refine retC Tryz.results99 rfl hw2.out.1 rfl ⟨rfl, K1.out.low.trans (hw2.out.2.1 _ K1.out.l2)⟩

theorem yhighQ (w : World) (c : Cp) (hc : c.wf) (p : Pn) (hp : p.wf) : Calls Tryz.prog 100 #[.agg (cyC c p)] w fun e w' => e = .returned (.agg (cpC { c with Q := true })) ∧ Below w.heap.size w w' := by
  have zz := zeroVC
  have hF : Hid (Fy w w.heap.size c p (w.heap.size + 1) zeroC ((w.alloc (.cells (cyC c p) 52)).alloc (.cells (cpC zeroC) 26))) := Fy.start w c p
  clear hc hp
  go_enter Tryz.func100, Tryz.ntmps100
  go_wp2_with (first
    | (refine gen_world ((w.alloc (.cells (cyC c p) 52)).alloc (.cells (cpC zeroC) 26)) (Fy w w.heap.size c p (w.heap.size + 1) zeroC) hF.out ?_; intro y K; have d1 := K.out.yb.fQ; have f1 := K.out.yb.fz 22; have K1 : Hid (Fy w w.heap.size { c with Q := true } p (w.heap.size + 1) zeroC (y.setCell ⟨w.heap.size, 22, none⟩ (.bool true))) := K.out.setC 22 _ (cyC_setQ c p true))
    | (refine at_loadYC w.heap.size _ p K1.out.yb _ rfl rfl rfl ?_)
    | (refine at_loadY w.heap.size c p K.out.yb _ rfl rfl rfl ?_)
    | (refine at_storeC (w.heap.size + 1) zeroC { c with Q := true } K1.out.z _ _ rfl rfl rfl rfl ?_; intro w2 hw2))
  refine retC Tryz.results100 rfl hw2.out.1 rfl ⟨rfl, K1.out.low.trans (hw2.out.2.1 _ K1.out.l2)⟩

theorem ysetP (w : World) (c : Cp) (hc : c.wf) (p : Pn) (hp : p.wf) : Calls Tryz.prog 70 #[.agg (cyC c p)] w fun e w' => e = .returned (.agg (cpC { c with P := c.Op % 16 })) ∧ Below w.heap.size w w' := by
  obtain ⟨q, hq⟩ : ∃ q, c.Op % 16 = q := ⟨_, rfl⟩
  have hq16 : q < 16 := by omega
  have hn := fun v => yn v c hc p hp
  rw [hq] at hn
  rw [hq]
  have zz := zeroVC
  have hF : Hid (Fy w w.heap.size c p (w.heap.size + 1) zeroC ((w.alloc (.cells (cyC c p) 52)).alloc (.cells (cpC zeroC) 26))) := Fy.start w c p
  clear hc hp hq hq16
  go_enter Tryz.func70, Tryz.ntmps70
  go_wp2_with (first
    | (refine gen_world ((w.alloc (.cells (cyC c p) 52)).alloc (.cells (cpC zeroC) 26)) (Fy w w.heap.size c p (w.heap.size + 1) zeroC) hF.out ?_; intro y K)
    | (go_at_call 81; refine (hn _).mono ?_; rintro e v1 ⟨rfl, hb1⟩; replace K : Hid _ := K.out.below hb1; have d1 := K.out.yb.fP; have f1 := K.out.yb.fz 18; have K1 : Hid (Fy w w.heap.size { c with P := q } p (w.heap.size + 1) zeroC (v1.setCell ⟨w.heap.size, 18, none⟩ (.int .u8 (q : Int)))) := K.out.setC 18 _ (cyC_setP c p q))
    | (refine at_loadYC w.heap.size _ p K1.out.yb _ rfl rfl rfl ?_)
    | (refine at_loadY w.heap.size c p K.out.yb _ rfl rfl rfl ?_)
    | (refine at_storeC (w.heap.size + 1) zeroC { c with P := q } K1.out.z _ _ rfl rfl rfl rfl ?_; intro w2 hw2))
  refine retC Tryz.results70 rfl hw2.out.1 rfl ⟨rfl, K1.out.low.trans (hw2.out.2.1 _ K1.out.l2)⟩

theorem ysetX (w : World) (c : Cp) (hc : c.wf) (p : Pn) (hp : p.wf) : Calls Tryz.prog 72 #[.agg (cyC c p)] w fun e w' => e = .returned (.agg (cpC { c with X := c.Op % 16 })) ∧ Below w.heap.size w w' := by
  obtain ⟨q, hq⟩ : ∃ q, c.Op % 16 = q := ⟨_, rfl⟩
  have hq16 : q < 16 := by omega
  have hn := fun v => yn v c hc p hp
  rw [hq] at hn
  rw [hq]
  have zz := zeroVC
  have hF : Hid (Fy w w.heap.size c p (w.heap.size + 1) zeroC ((w.alloc (.cells (cyC c p) 52)).alloc (.cells (cpC zeroC) 26))) := Fy.start w c p
  clear hc hp hq hq16
  go_enter Tryz.func72, Tryz.ntmps72
  go_wp2_with (first
    | (refine gen_world ((w.alloc (.cells (cyC c p) 52)).alloc (.cells (cpC zeroC) 26)) (Fy w w.heap.size c p (w.heap.size + 1) zeroC) hF.out ?_; intro y K)
    | (go_at_call 81; refine (hn _).mono ?_; rintro e v1 ⟨rfl, hb1⟩; replace K : Hid _ := K.out.below hb1; have d1 := K.out.yb.fX; have f1 := K.out.yb.fz 19; have K1 : Hid (Fy w w.heap.size { c with X := q } p (w.heap.size + 1) zeroC (v1.setCell ⟨w.heap.size, 19, none⟩ (.int .u8 (q : Int)))) := K.out.setC 19 _ (cyC_setX c p q))
    | (refine at_loadYC w.heap.size _ p K1.out.yb _ rfl rfl rfl ?_)
    | (refine at_loadY w.heap.size c p K.out.yb _ rfl rfl rfl ?_)
    | (refine at_storeC (w.heap.size + 1) zeroC { c with X := q } K1.out.z _ _ rfl rfl rfl rfl ?_; intro w2 hw2))
  refine retC Tryz.results72 rfl hw2.out.1 rfl ⟨rfl, K1.out.low.trans (hw2.out.2.1 _ K1.out.l2)⟩

end Go.Proofs.YtbeeefekndcgnaaGreatDoor
