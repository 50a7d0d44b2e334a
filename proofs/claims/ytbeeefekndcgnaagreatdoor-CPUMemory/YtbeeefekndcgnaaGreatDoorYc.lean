/- A cycle's methods: LDA, GLO, GHI, the ports. -/
import Derived.Test.YtbeeefekndcgnaaGreatDoorCy
import Derived.Test.YtbeeefekndcgnaaGreatDoorPl
import Derived.Test.YtbeeefekndcgnaaGreatDoorYa
namespace Go.Proofs.YtbeeefekndcgnaaGreatDoor
open Go Go.RowKit
set_option linter.unusedVariables false
set_option maxHeartbeats 1000000
set_option maxRecDepth 20000

theorem ylda (w : World) (c : Cp) (hc : c.wf) (p : Pn) (hp : p.wf) : Calls Tryz.prog 56 #[.agg (cyC c p)] w fun e w' => e = .returned (.agg (cpC ({ c with D := p.Data }.up (c.Op % 16)))) ∧ Below w.heap.size w w' := by
  obtain ⟨q, hq⟩ : ∃ q, c.Op % 16 = q := ⟨_, rfl⟩
  have hq16 : q < 16 := by omega
  have hn := fun v => yn v { c with D := p.Data } ⟨hc.R, hp.Data, hc.P, hc.X, hc.T, hc.Op, hc.B, hc.Ph⟩ p hp
  have eo : ({ c with D := p.Data } : Cp).Op = c.Op := rfl
  rw [eo, hq] at hn
  rw [hq]
  have ix := fun v => idx (g := w.heap.size) (off := 0) (N := 16) Tryz.underlying23 infoR .u8 q v hq16
  simp only [Nat.zero_add, Nat.mul_one] at ix
  have hS : Hid ((cyC { c with D := p.Data } p).setIfInBounds q (.int .u16 (IntKind.u16.wrap (c.R q + 1))) = cyC ({ c with D := p.Data }.up q) p) := cyC_up { c with D := p.Data } p q hq16
  have hR' : Hid (∀ b x, BoxY x b { c with D := p.Data } p → x.cell? ⟨b, q, none⟩ = some (.int .u16 (c.R q))) := fun b x h => h.r q hq16
  have zz := zeroVC
  have hF : Hid (Fy w w.heap.size c p (w.heap.size + 1) zeroC ((w.alloc (.cells (cyC c p) 52)).alloc (.cells (cpC zeroC) 26))) := Fy.start w c p
  clear hc hp hq hq16 eo
  go_enter Tryz.func56, Tryz.ntmps56
  go_wp2_with (first
    | (refine gen_world ((w.alloc (.cells (cyC c p) 52)).alloc (.cells (cpC zeroC) 26)) (Fy w w.heap.size c p (w.heap.size + 1) zeroC) hF.out ?_; intro y K; have d2 := K.out.yb.fData; have d3 := K.out.yb.fD; have f16 := K.out.yb.fz 16; have K1 : Hid (Fy w w.heap.size { c with D := p.Data } p (w.heap.size + 1) zeroC (y.setCell ⟨w.heap.size, 16, none⟩ (.int .u8 p.Data))) := K.out.setC 16 _ (cyC_setD c p p.Data))
    | (refine gen_world (y.setCell ⟨w.heap.size, 16, none⟩ (.int .u8 p.Data)) (Fy w w.heap.size { c with D := p.Data } p (w.heap.size + 1) zeroC) K1.out ?_; intro y1 K2)
    | (refine at_loadY w.heap.size { c with D := p.Data } p K2.out.yb _ rfl rfl rfl ?_)
    | (go_at_call 81; refine (hn _).mono ?_; rintro e v1 ⟨rfl, hb1⟩; replace K2 : Hid _ := K2.out.below hb1; have dq := hR'.out _ _ K2.out.yb; have fq := K2.out.yb.fz q; have K3 : Hid (Fy w w.heap.size ({ c with D := p.Data }.up q) p (w.heap.size + 1) zeroC (v1.setCell ⟨w.heap.size, q, none⟩ (.int .u16 (IntKind.u16.wrap (c.R q + 1))))) := K2.out.setC q _ hS.out)
    | (refine at_loadYC w.heap.size _ p K3.out.yb _ rfl rfl rfl ?_)
    | (refine at_storeC (w.heap.size + 1) zeroC ({ c with D := p.Data }.up q) K3.out.z _ _ rfl rfl rfl rfl ?_; intro w2 hw2))
  refine retC Tryz.results56 rfl hw2.out.1 rfl ⟨rfl, K3.out.low.trans (hw2.out.2.1 _ K3.out.l2)⟩

theorem ygetlo (w : World) (c : Cp) (hc : c.wf) (p : Pn) (hp : p.wf) : Calls Tryz.prog 62 #[.agg (cyC c p)] w fun e w' => e = .returned (.agg (cpC { c with D := c.R (c.Op % 16) % 256 })) ∧ Below w.heap.size w w' := by
  have hV := fun v => ylow v c hc p hp
  obtain ⟨V, hVe⟩ : ∃ V, c.R (c.Op % 16) % 256 = V := ⟨_, rfl⟩
  rw [hVe] at hV ⊢
  have zz := zeroVC
  have hF : Hid (Fy w w.heap.size c p (w.heap.size + 1) zeroC ((w.alloc (.cells (cyC c p) 52)).alloc (.cells (cpC zeroC) 26))) := Fy.start w c p
  clear hc hp hVe
  go_enter Tryz.func62, Tryz.ntmps62
  go_wp2_with (first
    | (refine gen_world ((w.alloc (.cells (cyC c p) 52)).alloc (.cells (cpC zeroC) 26)) (Fy w w.heap.size c p (w.heap.size + 1) zeroC) hF.out ?_; intro y K)
    | (go_at_call 63; refine (hV _).mono ?_; rintro e v1 ⟨rfl, hb1⟩; replace K : Hid _ := K.out.below hb1; have d1 := K.out.yb.fD; have f1 := K.out.yb.fz 16; have K1 : Hid (Fy w w.heap.size { c with D := V } p (w.heap.size + 1) zeroC (v1.setCell ⟨w.heap.size, 16, none⟩ (.int .u8 V))) := K.out.setC 16 _ (cyC_setD c p V))
    | (refine at_loadYC w.heap.size _ p K1.out.yb _ rfl rfl rfl ?_)
    | (refine at_loadY w.heap.size c p K.out.yb _ rfl rfl rfl ?_)
    | (refine at_storeC (w.heap.size + 1) zeroC { c with D := V } K1.out.z _ _ rfl rfl rfl rfl ?_; intro w2 hw2))
  refine retC Tryz.results62 rfl hw2.out.1 rfl ⟨rfl, K1.out.low.trans (hw2.out.2.1 _ K1.out.l2)⟩

theorem ygethi (w : World) (c : Cp) (hc : c.wf) (p : Pn) (hp : p.wf) : Calls Tryz.prog 64 #[.agg (cyC c p)] w fun e w' => e = .returned (.agg (cpC { c with D := c.R (c.Op % 16) / 256 })) ∧ Below w.heap.size w w' := by
  have hV := fun v => yhigh v c hc p hp
  obtain ⟨V, hVe⟩ : ∃ V, c.R (c.Op % 16) / 256 = V := ⟨_, rfl⟩
  rw [hVe] at hV ⊢
  have zz := zeroVC
  have hF : Hid (Fy w w.heap.size c p (w.heap.size + 1) zeroC ((w.alloc (.cells (cyC c p) 52)).alloc (.cells (cpC zeroC) 26))) := Fy.start w c p
  clear hc hp hVe
  go_enter Tryz.func64, Tryz.ntmps64
  go_wp2_with (first
    | (refine gen_world ((w.alloc (.cells (cyC c p) 52)).alloc (.cells (cpC zeroC) 26)) (Fy w w.heap.size c p (w.heap.size + 1) zeroC) hF.out ?_; intro y K)
    | (go_at_call 65; refine (hV _).mono ?_; rintro e v1 ⟨rfl, hb1⟩; replace K : Hid _ := K.out.below hb1; have d1 := K.out.yb.fD; have f1 := K.out.yb.fz 16; have K1 : Hid (Fy w w.heap.size { c with D := V } p (w.heap.size + 1) zeroC (v1.setCell ⟨w.heap.size, 16, none⟩ (.int .u8 V))) := K.out.setC 16 _ (cyC_setD c p V))
    | (refine at_loadYC w.heap.size _ p K1.out.yb _ rfl rfl rfl ?_)
    | (refine at_loadY w.heap.size c p K.out.yb _ rfl rfl rfl ?_)
    | (refine at_storeC (w.heap.size + 1) zeroC { c with D := V } K1.out.z _ _ rfl rfl rfl rfl ?_; intro w2 hw2))
  refine retC Tryz.results64 rfl hw2.out.1 rfl ⟨rfl, K1.out.low.trans (hw2.out.2.1 _ K1.out.l2)⟩

theorem yexch1 (w : World) (c : Cp) (hc : c.wf) (p : Pn) (hp : p.wf) (hX : c.X < 16) (h8 : c.Op % 16 < 8) : Calls Tryz.prog 59 #[.agg (cyC c p)] w fun e w' => e = .returned (.agg (cpC (c.up c.X))) ∧ Below w.heap.size w w' := by
  obtain ⟨q, hq⟩ : ∃ q, c.Op % 16 = q := ⟨_, rfl⟩
  have hn := fun v => yn v c hc p hp
  rw [hq] at hn
  rw [hq] at h8
  have h8' : (q : Int) < 8 := by omega
  have ix := fun v => idx (g := w.heap.size) (off := 0) (N := 16) Tryz.underlying23 infoR .u8 c.X v hX
  simp only [Nat.zero_add, Nat.mul_one] at ix
  have hS : Hid ((cyC c p).setIfInBounds c.X (.int .u16 (IntKind.u16.wrap (c.R c.X + 1))) = cyC (c.up c.X) p) := cyC_up _ p c.X hX
  have hR' : Hid (∀ b x, BoxY x b c p → x.cell? ⟨b, c.X, none⟩ = some (.int .u16 (c.R c.X))) := fun b x h => h.r c.X hX
  have zz := zeroVC
  have hF : Hid (Fy w w.heap.size c p (w.heap.size + 1) zeroC ((w.alloc (.cells (cyC c p) 52)).alloc (.cells (cpC zeroC) 26))) := Fy.start w c p
  clear hc hp hX h8 hq
  go_enter Tryz.func59, Tryz.ntmps59
  go_wp2_with (first
    | (refine gen_world ((w.alloc (.cells (cyC c p) 52)).alloc (.cells (cpC zeroC) 26)) (Fy w w.heap.size c p (w.heap.size + 1) zeroC) hF.out ?_; intro y K)
    | (go_at_call 81; refine (hn _).mono ?_; rintro e v1 ⟨rfl, hb1⟩; replace K : Hid _ := K.out.below hb1; have d19 := K.out.yb.fX; have dq := hR'.out _ _ K.out.yb; have fq := K.out.yb.fz c.X; have K1 : Hid (Fy w w.heap.size (c.up c.X) p (w.heap.size + 1) zeroC (v1.setCell ⟨w.heap.size, c.X, none⟩ (.int .u16 (IntKind.u16.wrap (c.R c.X + 1))))) := K.out.setC c.X _ hS.out)
    | (refine at_loadYC w.heap.size _ p K1.out.yb _ rfl rfl rfl ?_)
    | (refine at_loadY w.heap.size c p K.out.yb _ rfl rfl rfl ?_)
    | (refine at_storeC (w.heap.size + 1) zeroC (c.up c.X) K1.out.z _ _ rfl rfl rfl rfl ?_; intro w2 hw2))
  refine retC Tryz.results59 rfl hw2.out.1 rfl ⟨rfl, K1.out.low.trans (hw2.out.2.1 _ K1.out.l2)⟩

theorem yexch2 (w : World) (c : Cp) (hc : c.wf) (p : Pn) (hp : p.wf) (h8 : 8 < c.Op % 16) : Calls Tryz.prog 59 #[.agg (cyC c p)] w fun e w' => e = .returned (.agg (cpC { c with D := p.Data })) ∧ Below w.heap.size w w' := by
  obtain ⟨q, hq⟩ : ∃ q, c.Op % 16 = q := ⟨_, rfl⟩
  have hn := fun v => yn v c hc p hp
  rw [hq] at hn
  rw [hq] at h8
  have h8' : (8 : Int) < q := by omega
  have h9' : (8 : Int) ≤ q := by omega
  have zz := zeroVC
  have hF : Hid (Fy w w.heap.size c p (w.heap.size + 1) zeroC ((w.alloc (.cells (cyC c p) 52)).alloc (.cells (cpC zeroC) 26))) := Fy.start w c p
  clear hc hp h8 hq
  go_enter Tryz.func59, Tryz.ntmps59
  go_wp2_with (first
    | (refine gen_world ((w.alloc (.cells (cyC c p) 52)).alloc (.cells (cpC zeroC) 26)) (Fy w w.heap.size c p (w.heap.size + 1) zeroC) hF.out ?_; intro y K)
    | (go_at_call 81; refine (hn _).mono ?_; rintro e v1 ⟨rfl, hb1⟩; replace K : Hid _ := K.out.below hb1; have d2 := K.out.yb.fData; have d3 := K.out.yb.fD; have f16 := K.out.yb.fz 16; have K1 : Hid (Fy w w.heap.size { c with D := p.Data } p (w.heap.size + 1) zeroC (v1.setCell ⟨w.heap.size, 16, none⟩ (.int .u8 p.Data))) := K.out.setC 16 _ (cyC_setD c p p.Data))
    | (refine at_loadYC w.heap.size _ p K1.out.yb _ rfl rfl rfl ?_)
    | (refine at_loadY w.heap.size c p K.out.yb _ rfl rfl rfl ?_)
    | (refine at_storeC (w.heap.size + 1) zeroC { c with D := p.Data } K1.out.z _ _ rfl rfl rfl rfl ?_; intro w2 hw2))
  refine retC Tryz.results59 rfl hw2.out.1 rfl ⟨rfl, K1.out.low.trans (hw2.out.2.1 _ K1.out.l2)⟩

theorem yexch0 (w : World) (c : Cp) (hc : c.wf) (p : Pn) (hp : p.wf) (h8 : c.Op % 16 = 8) : Calls Tryz.prog 59 #[.agg (cyC c p)] w fun e w' => e = .returned (.agg (cpC c)) ∧ Below w.heap.size w w' := by
  have hn := fun v => yn v c hc p hp
  rw [h8] at hn
  have zz := zeroVC
  have hF : Hid (Fy w w.heap.size c p (w.heap.size + 1) zeroC ((w.alloc (.cells (cyC c p) 52)).alloc (.cells (cpC zeroC) 26))) := Fy.start w c p
  clear hc hp h8
  go_enter Tryz.func59, Tryz.ntmps59
  go_wp2_with (first
    | (refine gen_world ((w.alloc (.cells (cyC c p) 52)).alloc (.cells (cpC zeroC) 26)) (Fy w w.heap.size c p (w.heap.size + 1) zeroC) hF.out ?_; intro y K)
    | (go_at_call 81; refine (hn _).mono ?_; rintro e v1 ⟨rfl, hb1⟩; replace K : Hid _ := K.out.below hb1)
    | (refine at_loadYC w.heap.size _ p K.out.yb _ rfl rfl rfl ?_)
    | (refine at_loadY w.heap.size c p K.out.yb _ rfl rfl rfl ?_)
    | (refine at_storeC (w.heap.size + 1) zeroC c K.out.z _ _ rfl rfl rfl rfl ?_; intro w2 hw2))
  refine retC Tryz.results59 rfl hw2.out.1 rfl ⟨rfl, K.out.low.trans (hw2.out.2.1 _ K.out.l2)⟩

theorem yexch (w : World) (c : Cp) (hc : c.wf) (p : Pn) (hp : p.wf) (hX : c.X < 16) : Calls Tryz.prog 59 #[.agg (cyC c p)] w fun e w' => e = .returned (.agg (cpC (portsM c p))) ∧ Below w.heap.size w w' := by
  unfold portsM
  by_cases h1 : c.Op % 16 < 8
  · rw [if_pos h1]; exact yexch1 w c hc p hp hX h1
  · rw [if_neg h1]
    by_cases h2 : c.Op % 16 > 8
    · rw [if_pos h2]; exact yexch2 w c hc p hp h2
    · rw [if_neg h2]; exact yexch0 w c hc p hp (by omega)

end Go.Proofs.YtbeeefekndcgnaaGreatDoor
