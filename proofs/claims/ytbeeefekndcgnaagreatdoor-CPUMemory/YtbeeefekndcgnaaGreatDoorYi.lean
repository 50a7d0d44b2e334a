/- A cycle's sums. -/
import Derived.Test.YtbeeefekndcgnaaGreatDoorCy
import Derived.Test.YtbeeefekndcgnaaGreatDoorPl
import Derived.Test.YtbeeefekndcgnaaGreatDoorYe
import Derived.Test.YtbeeefekndcgnaaGreatDoorBus
import Derived.Test.YtbeeefekndcgnaaGreatDoorDoC
namespace Go.Proofs.YtbeeefekndcgnaaGreatDoor
open Go Go.RowKit
set_option linter.unusedVariables false
set_option maxHeartbeats 1000000
set_option maxRecDepth 20000

theorem rd_eq (n : Nat) (h : n < 256) : useR (ku n) = rrdB n := by
  have : ∀ n : Nat, n < 256 → useR (ku n) = rrdB n := by decide +kernel
  exact this n h
theorem fldR (a b c d e : Value) (w : World) : (Instr.field 64 (.agg #[a, b, c, d, e]) 1).run Tryz.prog w = .ok b w := by kernel_rfl
def byteM (c : Cp) (p : Pn) : Int := if rrdB c.Op then p.Data else 0
def csumM (c : Cp) (p : Pn) (s : Nat) : Cp := if rfmI c.Op = 4 then (sumM c s (byteM c p)).up c.P else sumM c s (byteM c p)
theorem ysum11 (w : World) (c : Cp) (hc : c.wf) (p : Pn) (hp : p.wf) (tb : Tabs w) (hP : c.P < 16) (s : Nat) (hs : s < 256) (hr : rrdB c.Op = true) (h4 : rfmI c.Op = 4) : Calls Tryz.prog 90 #[.agg (cyC c p), .int .u8 (s : Int)] w fun e w' => e = .returned (.agg (cpC (csumM c p s))) ∧ Below w.heap.size w w' := by
  have hI := fun v t => info_any c.Op v t hc.Op
  have hBu := fun v t => bus_any c.Op false v t hc.Op
  have he := fm_eq c.Op hc.Op
  have hrd := rd_eq c.Op hc.Op
  rw [hr] at hrd
  obtain ⟨f, hf⟩ : ∃ f, fm c.Op = f := ⟨_, rfl⟩
  rw [hf] at he
  have ef : ((f : Int) == 4) = true := by rw [he]; simpa using h4
  obtain ⟨S, hS0⟩ : ∃ S, nm c.Op = S := ⟨_, rfl⟩
  obtain ⟨L, hL⟩ : ∃ L, ((lay (fm c.Op * 3) : Nat) : Int) = L := ⟨_, rfl⟩
  obtain ⟨Z, hZ⟩ : ∃ Z, ((cyc c.Op : Nat) : Int) = Z := ⟨_, rfl⟩
  unfold infoV at hI
  rw [hS0, hL, hZ, hf] at hI
  unfold pbusV at hBu
  simp only [Bool.false_eq_true, false_and, if_false] at hBu
  rw [hrd] at hBu
  obtain ⟨u0, hu0⟩ : ∃ u, Value.int .u8 ((useN (ku c.Op) : Nat) : Int) = u := ⟨_, rfl⟩
  obtain ⟨u2, hu2⟩ : ∃ u, Value.bool (useW (ku c.Op)) = u := ⟨_, rfl⟩
  obtain ⟨u3, hu3⟩ : ∃ u, Value.bool (useO (ku c.Op)) = u := ⟨_, rfl⟩
  obtain ⟨u4, hu4⟩ : ∃ u, Value.int .u8 (((if c.Op / 16 = 6 then c.Op % 8 else 0 : Nat) : Nat) : Int) = u := ⟨_, rfl⟩
  rw [hu0, hu2, hu3, hu4] at hBu
  have hD := fun v => do_any (s : Int) c.D p.Data c.DF (by omega) (by omega) hc.D.1 (by have := hc.D; omega) (by have := hp.Data; omega) (by have := hp.Data; omega) v
  unfold csumM byteM sumM
  rw [hr]
  rw [if_pos h4]
  simp only [if_true]
  obtain ⟨V, hV⟩ : ∃ V, doV s c.D p.Data c.DF = V := ⟨_, rfl⟩
  obtain ⟨G, hG⟩ : ∃ G, doF s c.D p.Data c.DF = G := ⟨_, rfl⟩
  rw [hV, hG] at hD
  rw [hV, hG]
  have tb' : Hid (Tabs w) := tb
  have ix := fun v => idx (g := w.heap.size) (off := 0) (N := 16) Tryz.underlying23 infoR .u8 c.P v hP
  simp only [Nat.zero_add, Nat.mul_one] at ix
  have hS : Hid ((cyC { c with D := V, DF := G } p).setIfInBounds c.P (.int .u16 (IntKind.u16.wrap (c.R c.P + 1))) = cyC ({ c with D := V, DF := G }.up c.P) p) := cyC_up _ p c.P hP
  have hR' : Hid (∀ b x, BoxY x b { c with D := V, DF := G } p → x.cell? ⟨b, c.P, none⟩ = some (.int .u16 (c.R c.P))) := fun b x h => h.r c.P hP
  have zz := zeroVC
  have hF : Hid (Fy w w.heap.size c p (w.heap.size + 1) zeroC ((w.alloc (.cells (cyC c p) 52)).alloc (.cells (cpC zeroC) 26))) := Fy.start w c p
  clear hc hp tb hP hr h4 he hrd hf hS0 hL hZ hu0 hu2 hu3 hu4 hV hG hs
  go_enter Tryz.func90, Tryz.ntmps90
  go_wp2_with (first
    | (refine gen_world ((w.alloc (.cells (cyC c p) 52)).alloc (.cells (cpC zeroC) 26)) (Fy w w.heap.size c p (w.heap.size + 1) zeroC) hF.out ?_; intro y K; have d23 := K.out.yb.fOp)
    | (go_at_call 35; refine (hBu _ (tb'.out.below K.out.low)).mono ?_; rintro e v1 ⟨rfl, hb1⟩; replace K : Hid _ := K.out.below hb1; have fl := fldR u0 (.bool true) u2 u3 u4; have d27 := K.out.yb.fData; have d16 := K.out.yb.fD; have d17 := K.out.yb.fDF)
    | (go_at_call 102; refine (hD _).mono ?_; rintro e v2 ⟨rfl, hb2⟩; replace K : Hid _ := K.out.below hb2; have g16 := K.out.yb.fD; have g17 := K.out.yb.fDF; have f16 := K.out.yb.fz 16; have f17 := K.out.yb.fz 17; have K1 : Hid (Fy w w.heap.size { c with D := V } p (w.heap.size + 1) zeroC (v2.setCell ⟨w.heap.size, 16, none⟩ (.int .u8 V))) := K.out.setC 16 _ (cyC_setD c p V); have K2 : Hid (Fy w w.heap.size { c with D := V, DF := G } p (w.heap.size + 1) zeroC ((v2.setCell ⟨w.heap.size, 16, none⟩ (.int .u8 V)).setCell ⟨w.heap.size, 17, none⟩ (.bool G))) := K1.out.setC 17 _ (cyC_setDF { c with D := V } p G))
    | (refine gen_world ((v2.setCell ⟨w.heap.size, 16, none⟩ (.int .u8 V)).setCell ⟨w.heap.size, 17, none⟩ (.bool G)) (Fy w w.heap.size { c with D := V, DF := G } p (w.heap.size + 1) zeroC) K2.out ?_; intro y4 K4; have e23 : y4.cell? ⟨w.heap.size, 23, none⟩ = some (.int .u8 (c.Op : Int)) := K4.out.yb.fOp)
    | (go_at_call 34; refine (hI _ (tb'.out.below K4.out.low)).mono ?_; rintro e v5 ⟨rfl, hb5⟩; replace K4 : Hid _ := K4.out.below hb5; have fl2 := fld (.string S) (.int .u8 (f : Int)) (.int .i64 L) (.int .i64 Z); have d18 : v5.cell? ⟨w.heap.size, 18, none⟩ = some (.int .u8 (c.P : Int)) := K4.out.yb.fP; have dq := hR'.out _ _ K4.out.yb; have fq := K4.out.yb.fz c.P; have K6 : Hid (Fy w w.heap.size ({ c with D := V, DF := G }.up c.P) p (w.heap.size + 1) zeroC (v5.setCell ⟨w.heap.size, c.P, none⟩ (.int .u16 (IntKind.u16.wrap (c.R c.P + 1))))) := K4.out.setC c.P _ hS.out)
    | (refine at_loadYC w.heap.size _ p K6.out.yb _ rfl rfl rfl ?_)
    | (refine at_storeC (w.heap.size + 1) zeroC _ K6.out.z _ _ rfl rfl rfl rfl ?_; intro w2 hw2))
  refine retC Tryz.results90 rfl hw2.out.1 rfl ⟨rfl, K6.out.low.trans (hw2.out.2.1 _ K6.out.l2)⟩

theorem ysum10 (w : World) (c : Cp) (hc : c.wf) (p : Pn) (hp : p.wf) (tb : Tabs w) (hP : c.P < 16) (s : Nat) (hs : s < 256) (hr : rrdB c.Op = true) (h4 : ¬ rfmI c.Op = 4) : Calls Tryz.prog 90 #[.agg (cyC c p), .int .u8 (s : Int)] w fun e w' => e = .returned (.agg (cpC (csumM c p s))) ∧ Below w.heap.size w w' := by
  have hI := fun v t => info_any c.Op v t hc.Op
  have hBu := fun v t => bus_any c.Op false v t hc.Op
  have he := fm_eq c.Op hc.Op
  have hrd := rd_eq c.Op hc.Op
  rw [hr] at hrd
  obtain ⟨f, hf⟩ : ∃ f, fm c.Op = f := ⟨_, rfl⟩
  rw [hf] at he
  have ef : ((f : Int) == 4) = false := by rw [he]; simpa using h4
  obtain ⟨S, hS0⟩ : ∃ S, nm c.Op = S := ⟨_, rfl⟩
  obtain ⟨L, hL⟩ : ∃ L, ((lay (fm c.Op * 3) : Nat) : Int) = L := ⟨_, rfl⟩
  obtain ⟨Z, hZ⟩ : ∃ Z, ((cyc c.Op : Nat) : Int) = Z := ⟨_, rfl⟩
  unfold infoV at hI
  rw [hS0, hL, hZ, hf] at hI
  unfold pbusV at hBu
  simp only [Bool.false_eq_true, false_and, if_false] at hBu
  rw [hrd] at hBu
  obtain ⟨u0, hu0⟩ : ∃ u, Value.int .u8 ((useN (ku c.Op) : Nat) : Int) = u := ⟨_, rfl⟩
  obtain ⟨u2, hu2⟩ : ∃ u, Value.bool (useW (ku c.Op)) = u := ⟨_, rfl⟩
  obtain ⟨u3, hu3⟩ : ∃ u, Value.bool (useO (ku c.Op)) = u := ⟨_, rfl⟩
  obtain ⟨u4, hu4⟩ : ∃ u, Value.int .u8 (((if c.Op / 16 = 6 then c.Op % 8 else 0 : Nat) : Nat) : Int) = u := ⟨_, rfl⟩
  rw [hu0, hu2, hu3, hu4] at hBu
  have hD := fun v => do_any (s : Int) c.D p.Data c.DF (by omega) (by omega) hc.D.1 (by have := hc.D; omega) (by have := hp.Data; omega) (by have := hp.Data; omega) v
  unfold csumM byteM sumM
  rw [hr]
  rw [if_neg h4]
  simp only [if_true]
  obtain ⟨V, hV⟩ : ∃ V, doV s c.D p.Data c.DF = V := ⟨_, rfl⟩
  obtain ⟨G, hG⟩ : ∃ G, doF s c.D p.Data c.DF = G := ⟨_, rfl⟩
  rw [hV, hG] at hD
  rw [hV, hG]
  have tb' : Hid (Tabs w) := tb
  have zz := zeroVC
  have hF : Hid (Fy w w.heap.size c p (w.heap.size + 1) zeroC ((w.alloc (.cells (cyC c p) 52)).alloc (.cells (cpC zeroC) 26))) := Fy.start w c p
  clear hc hp tb hP hr h4 he hrd hf hS0 hL hZ hu0 hu2 hu3 hu4 hV hG hs
  go_enter Tryz.func90, Tryz.ntmps90
  go_wp2_with (first
    | (refine gen_world ((w.alloc (.cells (cyC c p) 52)).alloc (.cells (cpC zeroC) 26)) (Fy w w.heap.size c p (w.heap.size + 1) zeroC) hF.out ?_; intro y K; have d23 := K.out.yb.fOp)
    | (go_at_call 35; refine (hBu _ (tb'.out.below K.out.low)).mono ?_; rintro e v1 ⟨rfl, hb1⟩; replace K : Hid _ := K.out.below hb1; have fl := fldR u0 (.bool true) u2 u3 u4; have d27 := K.out.yb.fData; have d16 := K.out.yb.fD; have d17 := K.out.yb.fDF)
    | (go_at_call 102; refine (hD _).mono ?_; rintro e v2 ⟨rfl, hb2⟩; replace K : Hid _ := K.out.below hb2; have g16 := K.out.yb.fD; have g17 := K.out.yb.fDF; have f16 := K.out.yb.fz 16; have f17 := K.out.yb.fz 17; have K1 : Hid (Fy w w.heap.size { c with D := V } p (w.heap.size + 1) zeroC (v2.setCell ⟨w.heap.size, 16, none⟩ (.int .u8 V))) := K.out.setC 16 _ (cyC_setD c p V); have K2 : Hid (Fy w w.heap.size { c with D := V, DF := G } p (w.heap.size + 1) zeroC ((v2.setCell ⟨w.heap.size, 16, none⟩ (.int .u8 V)).setCell ⟨w.heap.size, 17, none⟩ (.bool G))) := K1.out.setC 17 _ (cyC_setDF { c with D := V } p G))
    | (refine gen_world ((v2.setCell ⟨w.heap.size, 16, none⟩ (.int .u8 V)).setCell ⟨w.heap.size, 17, none⟩ (.bool G)) (Fy w w.heap.size { c with D := V, DF := G } p (w.heap.size + 1) zeroC) K2.out ?_; intro y4 K4; have e23 : y4.cell? ⟨w.heap.size, 23, none⟩ = some (.int .u8 (c.Op : Int)) := K4.out.yb.fOp)
    | (go_at_call 34; refine (hI _ (tb'.out.below K4.out.low)).mono ?_; rintro e v5 ⟨rfl, hb5⟩; replace K4 : Hid _ := K4.out.below hb5; have fl2 := fld (.string S) (.int .u8 (f : Int)) (.int .i64 L) (.int .i64 Z))
    | (refine at_loadYC w.heap.size _ p K4.out.yb _ rfl rfl rfl ?_)
    | (refine at_storeC (w.heap.size + 1) zeroC _ K4.out.z _ _ rfl rfl rfl rfl ?_; intro w2 hw2))
  refine retC Tryz.results90 rfl hw2.out.1 rfl ⟨rfl, K4.out.low.trans (hw2.out.2.1 _ K4.out.l2)⟩

theorem ysum01 (w : World) (c : Cp) (hc : c.wf) (p : Pn) (hp : p.wf) (tb : Tabs w) (hP : c.P < 16) (s : Nat) (hs : s < 256) (hr : rrdB c.Op = false) (h4 : rfmI c.Op = 4) : Calls Tryz.prog 90 #[.agg (cyC c p), .int .u8 (s : Int)] w fun e w' => e = .returned (.agg (cpC (csumM c p s))) ∧ Below w.heap.size w w' := by
  have hI := fun v t => info_any c.Op v t hc.Op
  have hBu := fun v t => bus_any c.Op false v t hc.Op
  have he := fm_eq c.Op hc.Op
  have hrd := rd_eq c.Op hc.Op
  rw [hr] at hrd
  obtain ⟨f, hf⟩ : ∃ f, fm c.Op = f := ⟨_, rfl⟩
  rw [hf] at he
  have ef : ((f : Int) == 4) = true := by rw [he]; simpa using h4
  obtain ⟨S, hS0⟩ : ∃ S, nm c.Op = S := ⟨_, rfl⟩
  obtain ⟨L, hL⟩ : ∃ L, ((lay (fm c.Op * 3) : Nat) : Int) = L := ⟨_, rfl⟩
  obtain ⟨Z, hZ⟩ : ∃ Z, ((cyc c.Op : Nat) : Int) = Z := ⟨_, rfl⟩
  unfold infoV at hI
  rw [hS0, hL, hZ, hf] at hI
  unfold pbusV at hBu
  simp only [Bool.false_eq_true, false_and, if_false] at hBu
  rw [hrd] at hBu
  obtain ⟨u0, hu0⟩ : ∃ u, Value.int .u8 ((useN (ku c.Op) : Nat) : Int) = u := ⟨_, rfl⟩
  obtain ⟨u2, hu2⟩ : ∃ u, Value.bool (useW (ku c.Op)) = u := ⟨_, rfl⟩
  obtain ⟨u3, hu3⟩ : ∃ u, Value.bool (useO (ku c.Op)) = u := ⟨_, rfl⟩
  obtain ⟨u4, hu4⟩ : ∃ u, Value.int .u8 (((if c.Op / 16 = 6 then c.Op % 8 else 0 : Nat) : Nat) : Int) = u := ⟨_, rfl⟩
  rw [hu0, hu2, hu3, hu4] at hBu
  have hD := fun v => do_any (s : Int) c.D 0 c.DF (by omega) (by omega) hc.D.1 (by have := hc.D; omega) (by have := hp.Data; omega) (by have := hp.Data; omega) v
  unfold csumM byteM sumM
  rw [hr]
  rw [if_pos h4]
  simp only [Bool.false_eq_true, if_false]
  obtain ⟨V, hV⟩ : ∃ V, doV s c.D 0 c.DF = V := ⟨_, rfl⟩
  obtain ⟨G, hG⟩ : ∃ G, doF s c.D 0 c.DF = G := ⟨_, rfl⟩
  rw [hV, hG] at hD
  rw [hV, hG]
  have tb' : Hid (Tabs w) := tb
  have ix := fun v => idx (g := w.heap.size) (off := 0) (N := 16) Tryz.underlying23 infoR .u8 c.P v hP
  simp only [Nat.zero_add, Nat.mul_one] at ix
  have hS : Hid ((cyC { c with D := V, DF := G } p).setIfInBounds c.P (.int .u16 (IntKind.u16.wrap (c.R c.P + 1))) = cyC ({ c with D := V, DF := G }.up c.P) p) := cyC_up _ p c.P hP
  have hR' : Hid (∀ b x, BoxY x b { c with D := V, DF := G } p → x.cell? ⟨b, c.P, none⟩ = some (.int .u16 (c.R c.P))) := fun b x h => h.r c.P hP
  have zz := zeroVC
  have hF : Hid (Fy w w.heap.size c p (w.heap.size + 1) zeroC ((w.alloc (.cells (cyC c p) 52)).alloc (.cells (cpC zeroC) 26))) := Fy.start w c p
  clear hc hp tb hP hr h4 he hrd hf hS0 hL hZ hu0 hu2 hu3 hu4 hV hG hs
  go_enter Tryz.func90, Tryz.ntmps90
  go_wp2_with (first
    | (refine gen_world ((w.alloc (.cells (cyC c p) 52)).alloc (.cells (cpC zeroC) 26)) (Fy w w.heap.size c p (w.heap.size + 1) zeroC) hF.out ?_; intro y K; have d23 := K.out.yb.fOp)
    | (go_at_call 35; refine (hBu _ (tb'.out.below K.out.low)).mono ?_; rintro e v1 ⟨rfl, hb1⟩; replace K : Hid _ := K.out.below hb1; have fl := fldR u0 (.bool false) u2 u3 u4; have d27 := K.out.yb.fData; have d16 := K.out.yb.fD; have d17 := K.out.yb.fDF)
    | (go_at_call 102; refine (hD _).mono ?_; rintro e v2 ⟨rfl, hb2⟩; replace K : Hid _ := K.out.below hb2; have g16 := K.out.yb.fD; have g17 := K.out.yb.fDF; have f16 := K.out.yb.fz 16; have f17 := K.out.yb.fz 17; have K1 : Hid (Fy w w.heap.size { c with D := V } p (w.heap.size + 1) zeroC (v2.setCell ⟨w.heap.size, 16, none⟩ (.int .u8 V))) := K.out.setC 16 _ (cyC_setD c p V); have K2 : Hid (Fy w w.heap.size { c with D := V, DF := G } p (w.heap.size + 1) zeroC ((v2.setCell ⟨w.heap.size, 16, none⟩ (.int .u8 V)).setCell ⟨w.heap.size, 17, none⟩ (.bool G))) := K1.out.setC 17 _ (cyC_setDF { c with D := V } p G))
    | (refine gen_world ((v2.setCell ⟨w.heap.size, 16, none⟩ (.int .u8 V)).setCell ⟨w.heap.size, 17, none⟩ (.bool G)) (Fy w w.heap.size { c with D := V, DF := G } p (w.heap.size + 1) zeroC) K2.out ?_; intro y4 K4; have e23 : y4.cell? ⟨w.heap.size, 23, none⟩ = some (.int .u8 (c.Op : Int)) := K4.out.yb.fOp)
    | (go_at_call 34; refine (hI _ (tb'.out.below K4.out.low)).mono ?_; rintro e v5 ⟨rfl, hb5⟩; replace K4 : Hid _ := K4.out.below hb5; have fl2 := fld (.string S) (.int .u8 (f : Int)) (.int .i64 L) (.int .i64 Z); have d18 : v5.cell? ⟨w.heap.size, 18, none⟩ = some (.int .u8 (c.P : Int)) := K4.out.yb.fP; have dq := hR'.out _ _ K4.out.yb; have fq := K4.out.yb.fz c.P; have K6 : Hid (Fy w w.heap.size ({ c with D := V, DF := G }.up c.P) p (w.heap.size + 1) zeroC (v5.setCell ⟨w.heap.size, c.P, none⟩ (.int .u16 (IntKind.u16.wrap (c.R c.P + 1))))) := K4.out.setC c.P _ hS.out)
    | (refine at_loadYC w.heap.size _ p K6.out.yb _ rfl rfl rfl ?_)
    | (refine at_storeC (w.heap.size + 1) zeroC _ K6.out.z _ _ rfl rfl rfl rfl ?_; intro w2 hw2))
  refine retC Tryz.results90 rfl hw2.out.1 rfl ⟨rfl, K6.out.low.trans (hw2.out.2.1 _ K6.out.l2)⟩

theorem ysum00 (w : World) (c : Cp) (hc : c.wf) (p : Pn) (hp : p.wf) (tb : Tabs w) (hP : c.P < 16) (s : Nat) (hs : s < 256) (hr : rrdB c.Op = false) (h4 : ¬ rfmI c.Op = 4) : Calls Tryz.prog 90 #[.agg (cyC c p), .int .u8 (s : Int)] w fun e w' => e = .returned (.agg (cpC (csumM c p s))) ∧ Below w.heap.size w w' := by
  have hI := fun v t => info_any c.Op v t hc.Op
  have hBu := fun v t => bus_any c.Op false v t hc.Op
  have he := fm_eq c.Op hc.Op
  have hrd := rd_eq c.Op hc.Op
  rw [hr] at hrd
  obtain ⟨f, hf⟩ : ∃ f, fm c.Op = f := ⟨_, rfl⟩
  rw [hf] at he
  have ef : ((f : Int) == 4) = false := by rw [he]; simpa using h4
  obtain ⟨S, hS0⟩ : ∃ S, nm c.Op = S := ⟨_, rfl⟩
  obtain ⟨L, hL⟩ : ∃ L, ((lay (fm c.Op * 3) : Nat) : Int) = L := ⟨_, rfl⟩
  obtain ⟨Z, hZ⟩ : ∃ Z, ((cyc c.Op : Nat) : Int) = Z := ⟨_, rfl⟩
  unfold infoV at hI
  rw [hS0, hL, hZ, hf] at hI
  unfold pbusV at hBu
  simp only [Bool.false_eq_true, false_and, if_false] at hBu
  rw [hrd] at hBu
  obtain ⟨u0, hu0⟩ : ∃ u, Value.int .u8 ((useN (ku c.Op) : Nat) : Int) = u := ⟨_, rfl⟩
  obtain ⟨u2, hu2⟩ : ∃ u, Value.bool (useW (ku c.Op)) = u := ⟨_, rfl⟩
  obtain ⟨u3, hu3⟩ : ∃ u, Value.bool (useO (ku c.Op)) = u := ⟨_, rfl⟩
  obtain ⟨u4, hu4⟩ : ∃ u, Value.int .u8 (((if c.Op / 16 = 6 then c.Op % 8 else 0 : Nat) : Nat) : Int) = u := ⟨_, rfl⟩
  rw [hu0, hu2, hu3, hu4] at hBu
  have hD := fun v => do_any (s : Int) c.D 0 c.DF (by omega) (by omega) hc.D.1 (by have := hc.D; omega) (by have := hp.Data; omega) (by have := hp.Data; omega) v
  unfold csumM byteM sumM
  rw [hr]
  rw [if_neg h4]
  simp only [Bool.false_eq_true, if_false]
  obtain ⟨V, hV⟩ : ∃ V, doV s c.D 0 c.DF = V := ⟨_, rfl⟩
  obtain ⟨G, hG⟩ : ∃ G, doF s c.D 0 c.DF = G := ⟨_, rfl⟩
  rw [hV, hG] at hD
  rw [hV, hG]
  have tb' : Hid (Tabs w) := tb
  have zz := zeroVC
  have hF : Hid (Fy w w.heap.size c p (w.heap.size + 1) zeroC ((w.alloc (.cells (cyC c p) 52)).alloc (.cells (cpC zeroC) 26))) := Fy.start w c p
  clear hc hp tb hP hr h4 he hrd hf hS0 hL hZ hu0 hu2 hu3 hu4 hV hG hs
  go_enter Tryz.func90, Tryz.ntmps90
  go_wp2_with (first
    | (refine gen_world ((w.alloc (.cells (cyC c p) 52)).alloc (.cells (cpC zeroC) 26)) (Fy w w.heap.size c p (w.heap.size + 1) zeroC) hF.out ?_; intro y K; have d23 := K.out.yb.fOp)
    | (go_at_call 35; refine (hBu _ (tb'.out.below K.out.low)).mono ?_; rintro e v1 ⟨rfl, hb1⟩; replace K : Hid _ := K.out.below hb1; have fl := fldR u0 (.bool false) u2 u3 u4; have d27 := K.out.yb.fData; have d16 := K.out.yb.fD; have d17 := K.out.yb.fDF)
    | (go_at_call 102; refine (hD _).mono ?_; rintro e v2 ⟨rfl, hb2⟩; replace K : Hid _ := K.out.below hb2; have g16 := K.out.yb.fD; have g17 := K.out.yb.fDF; have f16 := K.out.yb.fz 16; have f17 := K.out.yb.fz 17; have K1 : Hid (Fy w w.heap.size { c with D := V } p (w.heap.size + 1) zeroC (v2.setCell ⟨w.heap.size, 16, none⟩ (.int .u8 V))) := K.out.setC 16 _ (cyC_setD c p V); have K2 : Hid (Fy w w.heap.size { c with D := V, DF := G } p (w.heap.size + 1) zeroC ((v2.setCell ⟨w.heap.size, 16, none⟩ (.int .u8 V)).setCell ⟨w.heap.size, 17, none⟩ (.bool G))) := K1.out.setC 17 _ (cyC_setDF { c with D := V } p G))
    | (refine gen_world ((v2.setCell ⟨w.heap.size, 16, none⟩ (.int .u8 V)).setCell ⟨w.heap.size, 17, none⟩ (.bool G)) (Fy w w.heap.size { c with D := V, DF := G } p (w.heap.size + 1) zeroC) K2.out ?_; intro y4 K4; have e23 : y4.cell? ⟨w.heap.size, 23, none⟩ = some (.int .u8 (c.Op : Int)) := K4.out.yb.fOp)
    | (go_at_call 34; refine (hI _ (tb'.out.below K4.out.low)).mono ?_; rintro e v5 ⟨rfl, hb5⟩; replace K4 : Hid _ := K4.out.below hb5; have fl2 := fld (.string S) (.int .u8 (f : Int)) (.int .i64 L) (.int .i64 Z))
    | (refine at_loadYC w.heap.size _ p K4.out.yb _ rfl rfl rfl ?_)
    | (refine at_storeC (w.heap.size + 1) zeroC _ K4.out.z _ _ rfl rfl rfl rfl ?_; intro w2 hw2))
  refine retC Tryz.results90 rfl hw2.out.1 rfl ⟨rfl, K4.out.low.trans (hw2.out.2.1 _ K4.out.l2)⟩

theorem ysum (w : World) (c : Cp) (hc : c.wf) (p : Pn) (hp : p.wf) (tb : Tabs w) (hP : c.P < 16) (s : Nat) (hs : s < 256) : Calls Tryz.prog 90 #[.agg (cyC c p), .int .u8 (s : Int)] w fun e w' => e = .returned (.agg (cpC (csumM c p s))) ∧ Below w.heap.size w w' := by
  by_cases h4 : rfmI c.Op = 4
  · rcases hr : rrdB c.Op
    · exact ysum01 w c hc p hp tb hP s hs hr h4
    · exact ysum11 w c hc p hp tb hP s hs hr h4
  · rcases hr : rrdB c.Op
    · exact ysum00 w c hc p hp tb hP s hs hr h4
    · exact ysum10 w c hc p hp tb hP s hs hr h4
end Go.Proofs.YtbeeefekndcgnaaGreatDoor
