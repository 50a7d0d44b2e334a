/- A cycle's methods: MARK, RET. -/
import Derived.Test.YtbeeefekndcgnaaGreatDoorCy
import Derived.Test.YtbeeefekndcgnaaGreatDoorPl
import Derived.Test.YtbeeefekndcgnaaGreatDoorYa
namespace Go.Proofs.YtbeeefekndcgnaaGreatDoor
open Go Go.RowKit
set_option linter.unusedVariables false
set_option maxHeartbeats 1000000
set_option maxRecDepth 20000

theorem ymark (w : World) (c : Cp) (hc : c.wf) (p : Pn) (hp : p.wf) (hP : c.P < 16) (hX : c.X < 16) : Calls Tryz.prog 98 #[.agg (cyC c p)] w fun e w' => e = .returned (.agg (cpC ({ c with T := 16 * (c.X : Int) + c.P, X := c.P }.down 2))) ∧ Below w.heap.size w w' := by
  have hB := fun v => yboth v c hc p hp hP hX
  obtain ⟨V, hVe⟩ : ∃ V, 16 * (c.X : Int) + (c.P : Int) = V := ⟨_, rfl⟩
  rw [hVe] at hB ⊢
  have zz := zeroVC
  have hF : Hid (Fy w w.heap.size c p (w.heap.size + 1) zeroC ((w.alloc (.cells (cyC c p) 52)).alloc (.cells (cpC zeroC) 26))) := Fy.start w c p
  clear hc hp hP hX hVe
  go_enter Tryz.func98, Tryz.ntmps98
  go_wp2_with (first
    | (refine gen_world ((w.alloc (.cells (cyC c p) 52)).alloc (.cells (cpC zeroC) 26)) (Fy w w.heap.size c p (w.heap.size + 1) zeroC) hF.out ?_; intro y K)
    | (go_at_call 41; refine (hB _).mono ?_; rintro e v1 ⟨rfl, hb1⟩; replace K : Hid _ := K.out.below hb1; have d20 := K.out.yb.fT; have f20 := K.out.yb.fz 20; have K1 : Hid (Fy w w.heap.size { c with T := V } p (w.heap.size + 1) zeroC (v1.setCell ⟨w.heap.size, 20, none⟩ (.int .u8 V))) := K.out.setC 20 _ (cyC_setT c p V))
    | (refine gen_world (v1.setCell ⟨w.heap.size, 20, none⟩ (.int .u8 V)) (Fy w w.heap.size { c with T := V } p (w.heap.size + 1) zeroC) K1.out ?_; intro y1 K2; have d18 : y1.cell? ⟨w.heap.size, 18, none⟩ = some (.int .u8 (c.P : Int)) := K2.out.yb.fP; have d19 := K2.out.yb.fX; have f19 := K2.out.yb.fz 19; have K3 : Hid (Fy w w.heap.size { c with T := V, X := c.P } p (w.heap.size + 1) zeroC (y1.setCell ⟨w.heap.size, 19, none⟩ (.int .u8 (c.P : Int)))) := K2.out.setC 19 _ (cyC_setX { c with T := V } p c.P))
    | (refine gen_world (y1.setCell ⟨w.heap.size, 19, none⟩ (.int .u8 (c.P : Int))) (Fy w w.heap.size { c with T := V, X := c.P } p (w.heap.size + 1) zeroC) K3.out ?_; intro y2 K4; have d2 : y2.cell? ⟨w.heap.size, 2, none⟩ = some (.int .u16 (c.R 2)) := K4.out.yb.fR2; have f2 := K4.out.yb.fz 2; have K5 : Hid (Fy w w.heap.size ({ c with T := V, X := c.P }.down 2) p (w.heap.size + 1) zeroC (y2.setCell ⟨w.heap.size, 2, none⟩ (.int .u16 (IntKind.u16.wrap (c.R 2 - 1))))) := K4.out.setC 2 _ (cyC_down _ p 2 (by decide)))
    | (refine at_loadYC w.heap.size _ p K5.out.yb _ rfl rfl rfl ?_)
    | (refine at_loadY w.heap.size c p K.out.yb _ rfl rfl rfl ?_)
    | (refine at_storeC (w.heap.size + 1) zeroC ({ c with T := V, X := c.P }.down 2) K5.out.z _ _ rfl rfl rfl rfl ?_; intro w2 hw2))
  refine retC Tryz.results98 rfl hw2.out.1 rfl ⟨rfl, K5.out.low.trans (hw2.out.2.1 _ K5.out.l2)⟩

theorem ygive (w : World) (c : Cp) (hc : c.wf) (p : Pn) (hp : p.wf) (hX : c.X < 16) : Calls Tryz.prog 93 #[.agg (cyC c p)] w fun e w' => e = .returned (.agg (cpC ({ ({ c with IE := true }.up c.X) with X := (p.Data / 16).toNat, P := (p.Data % 16).toNat }))) ∧ Below w.heap.size w w' := by
  have hd := hp.Data
  obtain ⟨NX, hNX⟩ : ∃ NX, (p.Data / 16).toNat = NX := ⟨_, rfl⟩
  obtain ⟨NP, hNP⟩ : ∃ NP, (p.Data % 16).toNat = NP := ⟨_, rfl⟩
  obtain ⟨n, hn⟩ : ∃ n : Nat, p.Data = n := ⟨p.Data.toNat, by omega⟩
  have e1 : p.Data / 16 = (NX : Int) := by omega
  have e2 : bits .and .u8 p.Data 15 = (NP : Int) := by rw [hn, low4 n (by omega)]; omega
  rw [hNX, hNP]
  have ix := fun v => idx (g := w.heap.size) (off := 0) (N := 16) Tryz.underlying23 infoR .u8 c.X v hX
  simp only [Nat.zero_add, Nat.mul_one] at ix
  have hS : Hid ((cyC c p).setIfInBounds c.X (.int .u16 (IntKind.u16.wrap (c.R c.X + 1))) = cyC (c.up c.X) p) := cyC_up _ p c.X hX
  have hR' : Hid (∀ b x, BoxY x b c p → x.cell? ⟨b, c.X, none⟩ = some (.int .u16 (c.R c.X))) := fun b x h => h.r c.X hX
  have zz := zeroVC
  have hF : Hid (Fy w w.heap.size c p (w.heap.size + 1) zeroC ((w.alloc (.cells (cyC c p) 52)).alloc (.cells (cpC zeroC) 26))) := Fy.start w c p
  clear hc hp hX hd hNX hNP hn
  go_enter Tryz.func93, Tryz.ntmps93
  go_wp2_with (first
    | (refine gen_world ((w.alloc (.cells (cyC c p) 52)).alloc (.cells (cpC zeroC) 26)) (Fy w w.heap.size c p (w.heap.size + 1) zeroC) hF.out ?_; intro y K; have d19 := K.out.yb.fX; have dq := hR'.out _ _ K.out.yb; have fq := K.out.yb.fz c.X; have K1 : Hid (Fy w w.heap.size (c.up c.X) p (w.heap.size + 1) zeroC (y.setCell ⟨w.heap.size, c.X, none⟩ (.int .u16 (IntKind.u16.wrap (c.R c.X + 1))))) := K.out.setC c.X _ hS.out)
    | (refine gen_world (y.setCell ⟨w.heap.size, c.X, none⟩ (.int .u16 (IntKind.u16.wrap (c.R c.X + 1)))) (Fy w w.heap.size (c.up c.X) p (w.heap.size + 1) zeroC) K1.out ?_; intro y1 K2; have d27 := K2.out.yb.fData; have d19' := K2.out.yb.fX; have f19 := K2.out.yb.fz 19; have d18 := K2.out.yb.fP; have f18 := K2.out.yb.fz 18; have K3 : Hid (Fy w w.heap.size { (c.up c.X) with X := NX } p (w.heap.size + 1) zeroC (y1.setCell ⟨w.heap.size, 19, none⟩ (.int .u8 (NX : Int)))) := K2.out.setC 19 _ (cyC_setX (c.up c.X) p NX); have K4 : Hid (Fy w w.heap.size { (c.up c.X) with X := NX, P := NP } p (w.heap.size + 1) zeroC ((y1.setCell ⟨w.heap.size, 19, none⟩ (.int .u8 (NX : Int))).setCell ⟨w.heap.size, 18, none⟩ (.int .u8 (NP : Int)))) := K3.out.setC 18 _ (cyC_setP { (c.up c.X) with X := NX } p NP))
    | (refine gen_world ((y1.setCell ⟨w.heap.size, 19, none⟩ (.int .u8 (NX : Int))).setCell ⟨w.heap.size, 18, none⟩ (.int .u8 (NP : Int))) (Fy w w.heap.size { (c.up c.X) with X := NX, P := NP } p (w.heap.size + 1) zeroC) K4.out ?_; intro y2 K5; have d21 := K5.out.yb.fIE; have f21 := K5.out.yb.fz 21; have K6 : Hid (Fy w w.heap.size { ({ c with IE := true }.up c.X) with X := NX, P := NP } p (w.heap.size + 1) zeroC (y2.setCell ⟨w.heap.size, 21, none⟩ (.bool true))) := K5.out.setC 21 _ (cyC_setIE { (c.up c.X) with X := NX, P := NP } p true))
    | (refine at_loadYC w.heap.size _ p K6.out.yb _ rfl rfl rfl ?_)
    | (refine at_loadY w.heap.size c p K.out.yb _ rfl rfl rfl ?_)
    | (refine at_storeC (w.heap.size + 1) zeroC { ({ c with IE := true }.up c.X) with X := NX, P := NP } K6.out.z _ _ rfl rfl rfl rfl ?_; intro w2 hw2))
  refine retC Tryz.results93 rfl hw2.out.1 rfl ⟨rfl, K6.out.low.trans (hw2.out.2.1 _ K6.out.l2)⟩

end Go.Proofs.YtbeeefekndcgnaaGreatDoor
