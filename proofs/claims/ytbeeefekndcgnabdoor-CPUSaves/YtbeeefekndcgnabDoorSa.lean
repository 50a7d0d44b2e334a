/- CPUSaves: where nothing is asked -/
import Derived.Test.YtbeeefekndcgnabDoorMr
import Derived.Test.YtbeeefekndcgnabDoorLg
import Derived.Test.YtbeeefekndcgnabDoorLd
import Derived.Test.YtbeeefekndcgnabDoorLc
import Derived.Test.YtbeeefekndcgnabDoorRw
namespace Go.Proofs.YtbeeefekndcgnabDoor
open Go Go.RowKit
set_option linter.unusedVariables false
set_option maxHeartbeats 1000000
set_option maxRecDepth 20000

theorem Fb.of {w : World} {l : List (Nat × Array Value × TypeId)} {g : Nat} {Y : Nat → Int} {y : World} (h : Fm w l y) (hm : Blk y g 65536 Y) (hg : ∀ (i b : Nat) (cs : Array Value) (t : TypeId), l[i]? = some (b, cs, t) → b ≠ g) : Fb w l g Y y :=
  ⟨h.get, h.ge, h.ne, hm, hg, ⟨h.low.os, h.low.tape, h.low.output, h.low.size, fun k hk _ => h.low.block k hk⟩⟩
theorem quiet_eqC {C : World → Prop} {o : Oper} {a : Act} (A B : Cp) (h : cpC A = cpC B) (x y : Operand) (t : TypeId) (ho : o.op = .binOp .eql 29 x y t) (hx : a.eval x = .agg (cpC A)) (hy : a.eval y = .agg (cpC B)) : ∀ w, C w → o.quietAt Tryd.prog a C w (.bool true) := fun w hw => by
  unfold Oper.quietAt execOp
  simp only [ho, hx, hy, h, Sem.run_bind, run_eqGuard_agg w .eql 29 x y (cpC B) (cpC B) guardC, run_eql_struct w 29 (cpC B) (cpC B), eqC, Result.andThen_ok, Sem.run_pure]
  exact ⟨rfl, rfl⟩
theorem Fm.one (w : World) (c : Cp) : Fm w [(w.heap.size, cpC c, 29)] (w.alloc (.cells (cpC c) 29)) := by
  have h := (Fm.nil w).new (cpC c) 29
  simpa using h
theorem saves_no (w : World) (tb : Tabs w) (c : Cp) (hc : c.wf) (s : Int) (s0 : 0 ≤ s) (s1 : s ≤ 65535) (hch : checkB c = false) : Calls Tryd.prog 4 #[.agg (cpC c), .int .u16 s] w fun e w' => e = .returned (.bool true) ∧ Below w.heap.size w w' := by
  have hA := fun v t => lawake v t
  have hM := fun v => lmay v c hc
  have tb' : Hid (Tabs w) := tb
  have hF : Hid (Fm w [(w.heap.size, cpC c, 29)] (w.alloc (.cells (cpC c) 29))) := Fm.one w c
  rw [hch] at hM
  clear hc tb hch
  go_enter Tryd.func4, Tryd.ntmps4
  go_wp2_with (first
    | (refine gen_world (w.alloc (.cells (cpC c) 29)) (Fm w [(w.heap.size, cpC c, 29)]) hF.out ?_; intro y K0)
    | (go_at_call 8; refine (hA _ (tb'.out.below K0.out.low)).mono ?_; rintro e v1 ⟨rfl, hb1⟩; have K1 : Hid _ := K0.out.below hb1)
    | (refine at_loadC w.heap.size c (K1.out.get 0 _ _ _ rfl) _ rfl rfl rfl ?_)
    | (go_at_call 9; refine (hM _).mono ?_; rintro e v2 ⟨rfl, hb2⟩; have K2 : Hid _ := K1.out.below hb2; refine stopAt ?_))
  refine Stop.go ?_
  go_wp2
  go_ret
  exact ⟨by first | rfl | simp, K2.out.low⟩
theorem saves_p1 (w : World) (tb : Tabs w) (c : Cp) (hc : c.wf) (s : Int) (s0 : 0 ≤ s) (s1 : s ≤ 65535) (hch : checkB c = true) (k1 : c.P = 1) : Calls Tryd.prog 4 #[.agg (cpC c), .int .u16 s] w fun e w' => e = .returned (.bool true) ∧ Below w.heap.size w w' := by
  have hA := fun v t => lawake v t
  have hM := fun v => lmay v c hc
  have tb' : Hid (Tabs w) := tb
  have hF : Hid (Fm w [(w.heap.size, cpC c, 29)] (w.alloc (.cells (cpC c) 29))) := Fm.one w c
  rw [hch] at hM
  have hp : (c.P : Int) = 1 := by omega
  replace hp : Hid _ := hp
  clear hc tb hch k1
  go_enter Tryd.func4, Tryd.ntmps4
  go_wp2_with (first
    | (refine gen_world (w.alloc (.cells (cpC c) 29)) (Fm w [(w.heap.size, cpC c, 29)]) hF.out ?_; intro y K0)
    | (go_at_call 8; refine (hA _ (tb'.out.below K0.out.low)).mono ?_; rintro e v1 ⟨rfl, hb1⟩; have K1 : Hid _ := K0.out.below hb1)
    | (refine at_loadC w.heap.size c (K1.out.get 0 _ _ _ rfl) _ rfl rfl rfl ?_)
    | (go_at_call 9; refine (hM _).mono ?_; rintro e v2 ⟨rfl, hb2⟩; have K2 : Hid _ := K1.out.below hb2; have kP1 := BoxC.fPh (K2.out.get 0 _ _ _ rfl); have zP1 := frozen_heap (K2.out.get 0 _ _ _ rfl) 25; have P1 : Hid (Fm w [(w.heap.size, cpC { c with Ph := 8 }, 29)] (v2.setCell ⟨w.heap.size, 25, none⟩ (.int .u8 8))) := K2.out.setCell 0 _ _ _ _ rfl 25 _ rfl)
    | (refine gen_world (v2.setCell ⟨w.heap.size, 25, none⟩ (.int .u8 8)) (Fm w [(w.heap.size, cpC { c with Ph := 8 }, 29)]) P1.out ?_; intro y3 K3; have kP2 := BoxC.fB (K3.out.get 0 _ _ _ rfl); have zP2 := frozen_heap (K3.out.get 0 _ _ _ rfl) 24; have P2 : Hid (Fm w [(w.heap.size, cpC { c with Ph := 8, B := 0 }, 29)] (y3.setCell ⟨w.heap.size, 24, none⟩ (.int .u8 0))) := K3.out.setCell 0 _ _ _ _ rfl 24 _ rfl)
    | (refine gen_world (y3.setCell ⟨w.heap.size, 24, none⟩ (.int .u8 0)) (Fm w [(w.heap.size, cpC { c with Ph := 8, B := 0 }, 29)]) P2.out ?_; intro y4 K4; have kP3 := BoxC.fIE (K4.out.get 0 _ _ _ rfl); have zP3 := frozen_heap (K4.out.get 0 _ _ _ rfl) 21; have P3 : Hid (Fm w [(w.heap.size, cpC { c with Ph := 8, B := 0, IE := true }, 29)] (y4.setCell ⟨w.heap.size, 21, none⟩ (.bool true))) := K4.out.setCell 0 _ _ _ _ rfl 21 _ rfl)
    | (refine gen_world (y4.setCell ⟨w.heap.size, 21, none⟩ (.bool true)) (Fm w [(w.heap.size, cpC { c with Ph := 8, B := 0, IE := true }, 29)]) P3.out ?_; intro y5 K5; have dP : y5.cell? ⟨w.heap.size, 18, none⟩ = some (.int .u8 (c.P : Int)) := BoxC.fP (c := { c with Ph := 8, B := 0, IE := true }) (K5.out.get 0 _ _ _ rfl); rw [hp.out] at dP; refine stopAt ?_))
  refine Stop.go ?_
  go_wp2
  go_ret
  exact ⟨by first | rfl | simp, K5.out.low⟩
theorem saves_p2 (w : World) (tb : Tabs w) (c : Cp) (hc : c.wf) (s : Int) (s0 : 0 ≤ s) (s1 : s ≤ 65535) (hch : checkB c = true) (k1 : c.P = 2) : Calls Tryd.prog 4 #[.agg (cpC c), .int .u16 s] w fun e w' => e = .returned (.bool true) ∧ Below w.heap.size w w' := by
  have hA := fun v t => lawake v t
  have hM := fun v => lmay v c hc
  have tb' : Hid (Tabs w) := tb
  have hF : Hid (Fm w [(w.heap.size, cpC c, 29)] (w.alloc (.cells (cpC c) 29))) := Fm.one w c
  rw [hch] at hM
  have hp : (c.P : Int) = 2 := by omega
  replace hp : Hid _ := hp
  clear hc tb hch k1
  go_enter Tryd.func4, Tryd.ntmps4
  go_wp2_with (first
    | (refine gen_world (w.alloc (.cells (cpC c) 29)) (Fm w [(w.heap.size, cpC c, 29)]) hF.out ?_; intro y K0)
    | (go_at_call 8; refine (hA _ (tb'.out.below K0.out.low)).mono ?_; rintro e v1 ⟨rfl, hb1⟩; have K1 : Hid _ := K0.out.below hb1)
    | (refine at_loadC w.heap.size c (K1.out.get 0 _ _ _ rfl) _ rfl rfl rfl ?_)
    | (go_at_call 9; refine (hM _).mono ?_; rintro e v2 ⟨rfl, hb2⟩; have K2 : Hid _ := K1.out.below hb2; have kP1 := BoxC.fPh (K2.out.get 0 _ _ _ rfl); have zP1 := frozen_heap (K2.out.get 0 _ _ _ rfl) 25; have P1 : Hid (Fm w [(w.heap.size, cpC { c with Ph := 8 }, 29)] (v2.setCell ⟨w.heap.size, 25, none⟩ (.int .u8 8))) := K2.out.setCell 0 _ _ _ _ rfl 25 _ rfl)
    | (refine gen_world (v2.setCell ⟨w.heap.size, 25, none⟩ (.int .u8 8)) (Fm w [(w.heap.size, cpC { c with Ph := 8 }, 29)]) P1.out ?_; intro y3 K3; have kP2 := BoxC.fB (K3.out.get 0 _ _ _ rfl); have zP2 := frozen_heap (K3.out.get 0 _ _ _ rfl) 24; have P2 : Hid (Fm w [(w.heap.size, cpC { c with Ph := 8, B := 0 }, 29)] (y3.setCell ⟨w.heap.size, 24, none⟩ (.int .u8 0))) := K3.out.setCell 0 _ _ _ _ rfl 24 _ rfl)
    | (refine gen_world (y3.setCell ⟨w.heap.size, 24, none⟩ (.int .u8 0)) (Fm w [(w.heap.size, cpC { c with Ph := 8, B := 0 }, 29)]) P2.out ?_; intro y4 K4; have kP3 := BoxC.fIE (K4.out.get 0 _ _ _ rfl); have zP3 := frozen_heap (K4.out.get 0 _ _ _ rfl) 21; have P3 : Hid (Fm w [(w.heap.size, cpC { c with Ph := 8, B := 0, IE := true }, 29)] (y4.setCell ⟨w.heap.size, 21, none⟩ (.bool true))) := K4.out.setCell 0 _ _ _ _ rfl 21 _ rfl)
    | (refine gen_world (y4.setCell ⟨w.heap.size, 21, none⟩ (.bool true)) (Fm w [(w.heap.size, cpC { c with Ph := 8, B := 0, IE := true }, 29)]) P3.out ?_; intro y5 K5; have dP : y5.cell? ⟨w.heap.size, 18, none⟩ = some (.int .u8 (c.P : Int)) := BoxC.fP (c := { c with Ph := 8, B := 0, IE := true }) (K5.out.get 0 _ _ _ rfl); rw [hp.out] at dP; refine stopAt ?_))
  refine Stop.go ?_
  go_wp2
  go_ret
  exact ⟨by first | rfl | simp, K5.out.low⟩
theorem saves_ps (w : World) (tb : Tabs w) (c : Cp) (hc : c.wf) (s : Int) (s0 : 0 ≤ s) (s1 : s ≤ 65535) (hch : checkB c = true) (k1 : c.P ≠ 1) (k2 : c.P ≠ 2) (k3 : 16384 ≤ s) (k4 : s < 16640) : Calls Tryd.prog 4 #[.agg (cpC c), .int .u16 s] w fun e w' => e = .returned (.bool true) ∧ Below w.heap.size w w' := by
  have hA := fun v t => lawake v t
  have hM := fun v => lmay v c hc
  have tb' : Hid (Tabs w) := tb
  have hF : Hid (Fm w [(w.heap.size, cpC c, 29)] (w.alloc (.cells (cpC c) 29))) := Fm.one w c
  rw [hch] at hM
  obtain ⟨pp, hp⟩ : ∃ x : Int, (c.P : Int) = x := ⟨_, rfl⟩
  have r1 : (pp == 1) = false := by simp; omega
  have r2 : (pp == 2) = false := by simp; omega
  have u1 : decide ((16384 : Int) ≤ s) = true := by simp; omega
  have u2 : decide (s < (16640 : Int)) = true := by simp; omega
  replace hp : Hid _ := hp
  clear hc tb hch k1 k2 k3 k4
  go_enter Tryd.func4, Tryd.ntmps4
  go_wp2_with (first
    | (refine gen_world (w.alloc (.cells (cpC c) 29)) (Fm w [(w.heap.size, cpC c, 29)]) hF.out ?_; intro y K0)
    | (go_at_call 8; refine (hA _ (tb'.out.below K0.out.low)).mono ?_; rintro e v1 ⟨rfl, hb1⟩; have K1 : Hid _ := K0.out.below hb1)
    | (refine at_loadC w.heap.size c (K1.out.get 0 _ _ _ rfl) _ rfl rfl rfl ?_)
    | (go_at_call 9; refine (hM _).mono ?_; rintro e v2 ⟨rfl, hb2⟩; have K2 : Hid _ := K1.out.below hb2; have kP1 := BoxC.fPh (K2.out.get 0 _ _ _ rfl); have zP1 := frozen_heap (K2.out.get 0 _ _ _ rfl) 25; have P1 : Hid (Fm w [(w.heap.size, cpC { c with Ph := 8 }, 29)] (v2.setCell ⟨w.heap.size, 25, none⟩ (.int .u8 8))) := K2.out.setCell 0 _ _ _ _ rfl 25 _ rfl)
    | (refine gen_world (v2.setCell ⟨w.heap.size, 25, none⟩ (.int .u8 8)) (Fm w [(w.heap.size, cpC { c with Ph := 8 }, 29)]) P1.out ?_; intro y3 K3; have kP2 := BoxC.fB (K3.out.get 0 _ _ _ rfl); have zP2 := frozen_heap (K3.out.get 0 _ _ _ rfl) 24; have P2 : Hid (Fm w [(w.heap.size, cpC { c with Ph := 8, B := 0 }, 29)] (y3.setCell ⟨w.heap.size, 24, none⟩ (.int .u8 0))) := K3.out.setCell 0 _ _ _ _ rfl 24 _ rfl)
    | (refine gen_world (y3.setCell ⟨w.heap.size, 24, none⟩ (.int .u8 0)) (Fm w [(w.heap.size, cpC { c with Ph := 8, B := 0 }, 29)]) P2.out ?_; intro y4 K4; have kP3 := BoxC.fIE (K4.out.get 0 _ _ _ rfl); have zP3 := frozen_heap (K4.out.get 0 _ _ _ rfl) 21; have P3 : Hid (Fm w [(w.heap.size, cpC { c with Ph := 8, B := 0, IE := true }, 29)] (y4.setCell ⟨w.heap.size, 21, none⟩ (.bool true))) := K4.out.setCell 0 _ _ _ _ rfl 21 _ rfl)
    | (refine gen_world (y4.setCell ⟨w.heap.size, 21, none⟩ (.bool true)) (Fm w [(w.heap.size, cpC { c with Ph := 8, B := 0, IE := true }, 29)]) P3.out ?_; intro y5 K5; have dP : y5.cell? ⟨w.heap.size, 18, none⟩ = some (.int .u8 (c.P : Int)) := BoxC.fP (c := { c with Ph := 8, B := 0, IE := true }) (K5.out.get 0 _ _ _ rfl); rw [hp.out] at dP; refine stopAt ?_))
  refine Stop.go ?_
  go_wp2
  go_ret
  exact ⟨by first | rfl | simp, K5.out.low⟩
end Go.Proofs.YtbeeefekndcgnabDoor
