/- CPUSaves, whole -/
import Derived.Test.YtbeeefekndcgnabDoorLc
import Derived.Test.YtbeeefekndcgnabDoorSa
namespace Go.Proofs.YtbeeefekndcgnabDoor
open Go Go.RowKit
set_option linter.unusedVariables false
set_option maxHeartbeats 1000000
set_option maxRecDepth 20000

theorem sv_wf {c : Cp} (hc : c.wf) (s : Int) (hs : 0 ≤ s ∧ s < 65536) : (sv c 16384 s c.P c.X c.T true c.Op 8).wf := ⟨fun k => by
  show 0 ≤ (if k = 1 then 16384 else if k = 2 then s else c.R k) ∧ (if k = 1 then 16384 else if k = 2 then s else c.R k) < 65536
  by_cases h1 : k = 1
  · rw [if_pos h1]; decide
  · rw [if_neg h1]
    by_cases h2 : k = 2
    · rw [if_pos h2]; exact hs
    · rw [if_neg h2]; exact hc.R k, hc.D, hc.P, hc.X, hc.T, hc.Op, (by decide : (0 : Int) ≤ 0 ∧ (0 : Int) < 256), (by decide : 8 < 256)⟩
theorem saves_a (w : World) (tb : Tabs w) (c : Cp) (hc : c.wf) (s : Int) (s0 : 0 ≤ s) (s1 : s ≤ 65535) (hch : checkB c = true) (k1 : c.P ≠ 1) (k2 : c.P ≠ 2) (k3 : s < 16384) : Calls Tryd.prog 4 #[.agg (cpC c), .int .u16 s] w fun e w' => e = .returned (.bool true) ∧ Below w.heap.size w w' := by
  have hA := fun v t => lawake v t
  have hM := fun v => lmay v c hc
  have tb' : Hid (Tabs w) := tb
  have hF : Hid (Fm w [(w.heap.size, cpC c, 29)] (w.alloc (.cells (cpC c) 29))) := Fm.one w c
  rw [hch] at hM
  have hm := (checkB_iff c).1 hch
  have hP15 := hm.1
  have hX15 := hm.2.1
  have hRo : ∀ v : World, Calls Tryd.prog 5 #[.int .i64 16384, .slice (some ⟨v.heap.size, 0, none⟩) 3 3] (v.alloc (.cells #[Value.int IntKind.u8 34, Value.int IntKind.u8 120, Value.int IntKind.u8 112] 5)) fun e w' => e = .returned (.slice (some ⟨v.heap.size + 1, 0, none⟩) 65536 65536) ∧ Hid (Blk w' (v.heap.size + 1) 65536 (laidM 16384 3 (fun j => ([34, 120, 112] : List Int).getD j 0)) ∧ Below v.heap.size v w') := fun v => lroom_lit v 16384 (by decide) [34, 120, 112] (by simp)
  obtain ⟨Y, hYe⟩ : ∃ Y, laidM 16384 ([34, 120, 112] : List Int).length (fun j => ([34, 120, 112] : List Int).getD j 0) = Y := ⟨_, rfl⟩
  have hYe' : laidM 16384 3 (fun j => ([34, 120, 112] : List Int).getD j 0) = Y := hYe
  rw [hYe'] at hRo
  have hY : ∀ j, 0 ≤ Y j ∧ Y j < 256 := fun j => by rw [← hYe]; exact laid_ok 16384 [34, 120, 112] (fun x hx => by simp at hx; omega) j
  have m0 : Y 16384 = 34 := by rw [← hYe]; exact laid_at 16384 [34, 120, 112] 0 _ (by simp) rfl 16384 (by decide)
  have m1 : Y 16385 = 120 := by rw [← hYe]; exact laid_at 16384 [34, 120, 112] 1 _ (by simp) rfl 16385 (by decide)
  have m2 : Y 16386 = 112 := by rw [← hYe]; exact laid_at 16384 [34, 120, 112] 2 _ (by simp) rfl 16386 (by decide)
  obtain ⟨V, hV⟩ : ∃ V : Int, 16 * (c.X : Int) + c.P = V := ⟨_, rfl⟩
  obtain ⟨q, hq⟩ : ∃ q : Nat, ((s - 1) % 65536).toNat = q := ⟨_, rfl⟩
  have hq' : (s - 1) % 65536 = (q : Int) := by omega
  have hq1 : Hid (q < 65536) := (by omega : q < 65536)
  have hall := sv_all c s c.P c.X c.T c.Op Y hP15 hX15 ⟨s0, by omega⟩ (by omega) m0 m1 m2
  rw [hV, hq] at hall
  have wfZ : (sv c 16384 s c.P c.X c.T true c.Op 8).wf := sv_wf hc s ⟨s0, by omega⟩
  have hRu := fun (v : World) (hb : Below w.heap.size w v) (g : Nat) (hg : w.heap.size ≤ g) (hm : Blk v g 65536 Y) => lruns w v tb hb g hg Y hY hm (sv c 16384 s c.P c.X c.T true c.Op 8) wfZ 7 (by decide) _ hall
  obtain ⟨xx, hx⟩ : ∃ x : Int, (c.X : Int) = x := ⟨_, rfl⟩
  obtain ⟨pp, hp⟩ : ∃ x : Int, (c.P : Int) = x := ⟨_, rfl⟩
  have r1 : (pp == 1) = false := by simp; omega
  have r2 : (pp == 2) = false := by simp; omega
  have v1' : IntKind.u8.wrap (16 * xx) = 16 * xx := by rw [IntKind.wrap_u8]; omega
  have v2' : IntKind.u8.wrap (16 * xx + pp) = V := by rw [IntKind.wrap_u8]; omega
  have hqw : IntKind.u16.wrap (s - 1) = (q : Int) := by rw [IntKind.wrap_u16]; omega
  have n1 : Hid ((cpC (sv c 16384 s c.P c.X c.T true c.Op 8)).setIfInBounds 1 (.int .u16 16387) = cpC (sv c 16387 s c.P c.X c.T true c.Op 8)) := (rfl : (cpC (sv c 16384 s c.P c.X c.T true c.Op 8)).setIfInBounds 1 (.int .u16 16387) = cpC (sv c 16387 s c.P c.X c.T true c.Op 8))
  have n0 : Hid ((cpC (sv c 16384 (c.R 2) c.P c.X c.T true c.Op 8)).setIfInBounds 2 (.int .u16 s) = cpC (sv c 16384 s c.P c.X c.T true c.Op 8)) := (rfl : (cpC (sv c 16384 (c.R 2) c.P c.X c.T true c.Op 8)).setIfInBounds 2 (.int .u16 s) = cpC (sv c 16384 s c.P c.X c.T true c.Op 8))
  have zX : Hid ((cpC (sv c 16384 s c.P c.X c.T true c.Op 8))[19]? = some (.int .u8 xx)) := (by rw [← hx]; rfl : (cpC (sv c 16384 s c.P c.X c.T true c.Op 8))[19]? = some (.int .u8 xx))
  have zP : Hid ((cpC (sv c 16384 s c.P c.X c.T true c.Op 8))[18]? = some (.int .u8 pp)) := (by rw [← hp]; rfl : (cpC (sv c 16384 s c.P c.X c.T true c.Op 8))[18]? = some (.int .u8 pp))
  obtain ⟨Z, hZ⟩ : ∃ Z, (sv c 16384 s c.P c.X c.T true c.Op 8) = Z := ⟨_, rfl⟩
  rw [hZ] at hRu n1 n0 zX zP
  have u1 : decide ((16384 : Int) ≤ s) = false := by simp; omega
  have ix1 : Hid (∀ g v, (Instr.indexAt 26 (.pointer (some ⟨g, 0, none⟩)) (.int .i64 1)).run Tryd.prog v = .ok (.pointer (some ⟨g, 1, none⟩)) v) := fun g v => by have := idx (g := g) (off := 0) (N := 16) Tryd.underlying26 infoR .i64 1 v (by decide); simpa using this
  have ix2 : Hid (∀ g v, (Instr.indexAt 26 (.pointer (some ⟨g, 0, none⟩)) (.int .i64 2)).run Tryd.prog v = .ok (.pointer (some ⟨g, 2, none⟩)) v) := fun g v => by have := idx (g := g) (off := 0) (N := 16) Tryd.underlying26 infoR .i64 2 v (by decide); simpa using this
  have ijq : Hid (∀ (g : Nat) v, (Instr.indexAt 23 (.slice (some ⟨g, 0, none⟩) 65536 65536) (.int .u16 (q : Int))).run Tryd.prog v = .ok (.pointer (some ⟨g, q, none⟩)) v) := fun g v => by have := idxS (g := g) (off := 0) (len := 65536) (cap := 65536) Tryd.underlying23 (s := 1) (by kernel_rfl) .u16 q v hq1.out; simpa using this
  have zz := zeroVC
  replace hp : Hid _ := hp
  replace hx : Hid _ := hx
  clear hc tb hch hm hP15 hX15 hYe hYe' hY m0 m1 m2 hall wfZ hZ k1 k2 k3 hV hq
  go_enter Tryd.func4, Tryd.ntmps4
  go_wp2_with (first
    | (refine gen_world (w.alloc (.cells (cpC c) 29)) (Fm w [(w.heap.size, cpC c, 29)]) hF.out ?_; intro y K0)
    | (go_at_call 8; refine (hA _ (tb'.out.below K0.out.low)).mono ?_; rintro e v1 ⟨rfl, hb1⟩; have K1 : Hid _ := K0.out.below hb1)
    | (refine at_loadC w.heap.size c (K1.out.get 0 _ _ _ rfl) _ rfl rfl rfl ?_)
    | (go_at_call 9; refine (hM _).mono ?_; rintro e v2 ⟨rfl, hb2⟩; have K2 : Hid _ := K1.out.below hb2; have kP1 := BoxC.fPh (K2.out.get 0 _ _ _ rfl); have zP1 := frozen_heap (K2.out.get 0 _ _ _ rfl) 25; have P1 : Hid (Fm w [(w.heap.size, cpC { c with Ph := 8 }, 29)] (v2.setCell ⟨w.heap.size, 25, none⟩ (.int .u8 8))) := K2.out.setCell 0 _ _ _ _ rfl 25 _ rfl)
    | (refine gen_world (v2.setCell ⟨w.heap.size, 25, none⟩ (.int .u8 8)) (Fm w [(w.heap.size, cpC { c with Ph := 8 }, 29)]) P1.out ?_; intro y3 K3; have kP2 := BoxC.fB (K3.out.get 0 _ _ _ rfl); have zP2 := frozen_heap (K3.out.get 0 _ _ _ rfl) 24; have P2 : Hid (Fm w [(w.heap.size, cpC { c with Ph := 8, B := 0 }, 29)] (y3.setCell ⟨w.heap.size, 24, none⟩ (.int .u8 0))) := K3.out.setCell 0 _ _ _ _ rfl 24 _ rfl)
    | (refine gen_world (y3.setCell ⟨w.heap.size, 24, none⟩ (.int .u8 0)) (Fm w [(w.heap.size, cpC { c with Ph := 8, B := 0 }, 29)]) P2.out ?_; intro y4 K4; have kP3 := BoxC.fIE (K4.out.get 0 _ _ _ rfl); have zP3 := frozen_heap (K4.out.get 0 _ _ _ rfl) 21; have P3 : Hid (Fm w [(w.heap.size, cpC { c with Ph := 8, B := 0, IE := true }, 29)] (y4.setCell ⟨w.heap.size, 21, none⟩ (.bool true))) := K4.out.setCell 0 _ _ _ _ rfl 21 _ rfl)
    | (refine gen_world (y4.setCell ⟨w.heap.size, 21, none⟩ (.bool true)) (Fm w [(w.heap.size, cpC { c with Ph := 8, B := 0, IE := true }, 29)]) P3.out ?_; intro y5 K5; have dP : y5.cell? ⟨w.heap.size, 18, none⟩ = some (.int .u8 (c.P : Int)) := BoxC.fP (c := { c with Ph := 8, B := 0, IE := true }) (K5.out.get 0 _ _ _ rfl); rw [hp.out] at dP; refine stopAt ?_))
  refine Stop.go ?_
  replace ix1 := ix1.out
  replace ix2 := ix2.out
  have d1 := BoxC.r (K5.out.get 0 _ _ _ rfl) 1 (by decide)
  have z1 := frozen_heap (K5.out.get 0 _ _ _ rfl) 1
  have Q1 : Hid (Fm w [(w.heap.size, cpC (sv c 16384 (c.R 2) c.P c.X c.T true c.Op 8), 29)] (y5.setCell ⟨w.heap.size, 1, none⟩ (.int .u16 16384))) := K5.out.setCell 0 _ _ _ _ rfl 1 _ rfl
  clear K0 K1 K2 K3 K4 P1 P2 P3 hb1 hb2
  go_wp2_with (first
    | ((with_reducible refine gen_world _ (Fm w [(w.heap.size, cpC (sv c 16384 (c.R 2) c.P c.X c.T true c.Op 8), 29)]) ?_ ?_); exact Q1.out; intro y6 K6; have d2 := BoxC.r (K6.out.get 0 _ _ _ rfl) 2 (by decide); have z2 := frozen_heap (K6.out.get 0 _ _ _ rfl) 2; have Q2 : Hid (Fm w [(w.heap.size, cpC Z, 29)] (y6.setCell ⟨w.heap.size, 2, none⟩ (.int .u16 s))) := K6.out.setCell 0 _ _ _ _ rfl 2 _ n0.out)
    | ((with_reducible refine gen_world _ (Fm w [(w.heap.size, cpC Z, 29)]) ?_ ?_); exact Q2.out; intro y7 K7)
    | (go_at_call_of 5 (Value.int IntKind.i64 16384); refine (hRo y7).mono ?_; rintro e v8 ⟨rfl, hr8⟩; have K8 : Hid (Fb w [(w.heap.size, cpC Z, 29)] (y7.heap.size + 1) Y v8) := Fb.of (K7.out.below hr8.out.2) hr8.out.1 (fun i b cs t e => by have := heap_lt (K7.out.get i b cs t e); omega); have hg : Hid (w.heap.size ≤ (y7.heap.size + 1)) := Nat.le_succ_of_le K7.out.low.size)
    | (go_at_call 6; refine (hRu _ (K8.out.upd.below (Nat.le_refl _) hg.out) (y7.heap.size + 1) hg.out K8.out.mem).mono ?_; rintro e v9 ⟨rfl, hb9⟩; have K9 : Hid (Fb w [(w.heap.size, cpC Z, 29)] (y7.heap.size + 1) (fun j => if j = q then V else Y j) v9) := K8.out.mov hb9.out.1 hb9.out.2)
    | ((with_reducible refine gen_world _ (Fb w [(w.heap.size, cpC Z, 29), (v9.heap.size, cpC zeroC, 29)] (y7.heap.size + 1) (fun j => if j = q then V else Y j)) ?_ ?_); exact K9.out.new _ _; intro y10 K10)
    | ((with_reducible refine at_storeC v9.heap.size zeroC (sv c 16387 s c.P c.X V true 112 1) ?_ (.tmp 8) (.tmp 48) ?_ ?_ ?_ ?_ ?_); exact K10.out.get 1 _ _ _ rfl; rfl; rfl; rfl; rfl; intro y11 hw11; have K11 : Hid (Fb w [(w.heap.size, cpC Z, 29), (v9.heap.size, cpC (sv c 16387 s c.P c.X V true 112 1), 29)] (y7.heap.size + 1) (fun j => if j = q then V else Y j) y11) := K10.out.put 1 _ _ _ _ rfl hw11.out)
    | ((with_reducible refine gen_world _ (Fb w [(w.heap.size, cpC Z, 29), (v9.heap.size, cpC (sv c 16387 s c.P c.X V true 112 1), 29), (y11.heap.size, cpC zeroC, 29)] (y7.heap.size + 1) (fun j => if j = q then V else Y j)) ?_ ?_); exact K11.out.new _ _; intro y12 K12)
    | ((with_reducible refine at_storeC y11.heap.size zeroC Z ?_ (.tmp 9) (.tmp 49) ?_ ?_ ?_ ?_ ?_); exact K12.out.get 2 _ _ _ rfl; rfl; rfl; rfl; rfl; intro y13 hw13; have K13 : Hid (Fb w [(w.heap.size, cpC Z, 29), (v9.heap.size, cpC (sv c 16387 s c.P c.X V true 112 1), 29), (y11.heap.size, cpC Z, 29)] (y7.heap.size + 1) (fun j => if j = q then V else Y j) y13) := K12.out.put 2 _ _ _ _ rfl hw13.out; have kU1 := BoxC.r (K13.out.get 2 _ _ _ rfl) 1 (by decide); have zU1 := frozen_heap (K13.out.get 2 _ _ _ rfl) 1; have U1 : Hid (Fb w [(w.heap.size, cpC Z, 29), (v9.heap.size, cpC (sv c 16387 s c.P c.X V true 112 1), 29), (y11.heap.size, cpC (sv c 16387 s c.P c.X c.T true c.Op 8), 29)] (y7.heap.size + 1) (fun j => if j = q then V else Y j) (y13.setCell ⟨y11.heap.size, 1, none⟩ (.int .u16 16387))) := K13.out.setCell 2 _ _ _ _ rfl 1 _ n1.out)
    | ((with_reducible refine gen_world _ (Fb w [(w.heap.size, cpC Z, 29), (v9.heap.size, cpC (sv c 16387 s c.P c.X V true 112 1), 29), (y11.heap.size, cpC (sv c 16387 s c.P c.X c.T true c.Op 8), 29)] (y7.heap.size + 1) (fun j => if j = q then V else Y j)) ?_ ?_); exact U1.out; intro y14 K14; have tX := BoxC.f (K14.out.get 0 _ _ _ rfl) 19 _ zX.out; have tP := BoxC.f (K14.out.get 0 _ _ _ rfl) 18 _ zP.out; have kU2 := BoxC.fT (K14.out.get 2 _ _ _ rfl); have zU2 := frozen_heap (K14.out.get 2 _ _ _ rfl) 20; have U2 : Hid (Fb w [(w.heap.size, cpC Z, 29), (v9.heap.size, cpC (sv c 16387 s c.P c.X V true 112 1), 29), (y11.heap.size, cpC (sv c 16387 s c.P c.X V true c.Op 8), 29)] (y7.heap.size + 1) (fun j => if j = q then V else Y j) (y14.setCell ⟨y11.heap.size, 20, none⟩ (.int .u8 V))) := K14.out.setCell 2 _ _ _ _ rfl 20 _ rfl)
    | ((with_reducible refine gen_world _ (Fb w [(w.heap.size, cpC Z, 29), (v9.heap.size, cpC (sv c 16387 s c.P c.X V true 112 1), 29), (y11.heap.size, cpC (sv c 16387 s c.P c.X V true c.Op 8), 29)] (y7.heap.size + 1) (fun j => if j = q then V else Y j)) ?_ ?_); exact U2.out; intro y15 K15; have kU3 := BoxC.fOp (K15.out.get 2 _ _ _ rfl); have zU3 := frozen_heap (K15.out.get 2 _ _ _ rfl) 23; have U3 : Hid (Fb w [(w.heap.size, cpC Z, 29), (v9.heap.size, cpC (sv c 16387 s c.P c.X V true 112 1), 29), (y11.heap.size, cpC (sv c 16387 s c.P c.X V true 112 8), 29)] (y7.heap.size + 1) (fun j => if j = q then V else Y j) (y15.setCell ⟨y11.heap.size, 23, none⟩ (.int .u8 112))) := K15.out.setCell 2 _ _ _ _ rfl 23 _ rfl)
    | ((with_reducible refine gen_world _ (Fb w [(w.heap.size, cpC Z, 29), (v9.heap.size, cpC (sv c 16387 s c.P c.X V true 112 1), 29), (y11.heap.size, cpC (sv c 16387 s c.P c.X V true 112 8), 29)] (y7.heap.size + 1) (fun j => if j = q then V else Y j)) ?_ ?_); exact U3.out; intro y16 K16; have kU4 := BoxC.fPh (K16.out.get 2 _ _ _ rfl); have zU4 := frozen_heap (K16.out.get 2 _ _ _ rfl) 25; have U4 : Hid (Fb w [(w.heap.size, cpC Z, 29), (v9.heap.size, cpC (sv c 16387 s c.P c.X V true 112 1), 29), (y11.heap.size, cpC (sv c 16387 s c.P c.X V true 112 1), 29)] (y7.heap.size + 1) (fun j => if j = q then V else Y j) (y16.setCell ⟨y11.heap.size, 25, none⟩ (.int .u8 1))) := K16.out.setCell 2 _ _ _ _ rfl 25 _ rfl)
    | ((with_reducible refine at_loadC w.heap.size Z ?_ (.tmp 2) ?_ ?_ ?_ ?_); exact K11.out.get 0 _ _ _ rfl; rfl; rfl; rfl)
    | ((with_reducible refine at_loadC w.heap.size Z ?_ (.tmp 2) ?_ ?_ ?_ ?_); exact K8.out.get 0 _ _ _ rfl; rfl; rfl; rfl))
  refine region_class_tail 12 (Fb w [(w.heap.size, cpC Z, 29), (v9.heap.size, cpC (sv c 16387 s c.P c.X V true 112 1), 29), (y11.heap.size, cpC (sv c 16387 s c.P c.X V true 112 1), 29)] (y7.heap.size + 1) (fun j => if j = q then V else Y j)) (by kernel_rfl) (by kernel_rfl) (U4.out.below (below_drew (Below.refl _ _))) ?_
  simp only [List.take_succ_cons, List.take_zero, List.drop_succ_cons, List.drop_zero]
  refine quiet_one (.agg (cpC (sv c 16387 s c.P c.X V true 112 1))) rfl (quiet_loadC v9.heap.size (sv c 16387 s c.P c.X V true 112 1) (fun _ h => h.get 1 _ _ _ rfl) (.tmp 8) rfl (by go_simp)) ?_
  refine quiet_one (.agg (cpC (sv c 16387 s c.P c.X V true 112 1))) rfl (fun u hy => by
    generalize ha : Act.put _ _ _ = a
    have e9 : a.eval (.tmp 9) = .pointer (some ⟨y11.heap.size, 0, none⟩) := by rw [← ha]; go_simp
    clear ha
    exact quiet_loadC (C := Fb w [(w.heap.size, cpC Z, 29), (v9.heap.size, cpC (sv c 16387 s c.P c.X V true 112 1), 29), (y11.heap.size, cpC (sv c 16387 s c.P c.X V true 112 1), 29)] (y7.heap.size + 1) (fun j => if j = q then V else Y j)) y11.heap.size (sv c 16387 s c.P c.X V true 112 1) (fun _ h => h.get 2 _ _ _ rfl) (.tmp 9) rfl e9 u hy) ?_
  refine quiet_one (.bool true) rfl (fun u hy => by
    generalize ha : Act.put _ _ _ = a
    have e61 : a.eval (.tmp 61) = .agg (cpC (sv c 16387 s c.P c.X V true 112 1)) := by rw [← ha]; go_simp
    have e62 : a.eval (.tmp 62) = .agg (cpC (sv c 16387 s c.P c.X V true 112 1)) := by rw [← ha]; go_simp
    clear ha
    exact quiet_eqC (C := Fb w [(w.heap.size, cpC Z, 29), (v9.heap.size, cpC (sv c 16387 s c.P c.X V true 112 1), 29), (y11.heap.size, cpC (sv c 16387 s c.P c.X V true 112 1), 29)] (y7.heap.size + 1) (fun j => if j = q then V else Y j)) (sv c 16387 s c.P c.X V true 112 1) (sv c 16387 s c.P c.X V true 112 1) rfl (.tmp 61) (.tmp 62) _ rfl e61 e62 u hy) ?_
  refine quiet_one (.bool true) rfl (fun u hy => by go_simp) ?_
  with_reducible refine quiet_one (.slice (some ⟨y7.heap.size + 1, 0, none⟩) 65536 65536) ?_ ?_ ?_
  · kernel_rfl
  · intro u hy
    go_simp
  with_reducible refine quiet_one (.int .u16 s) ?_ ?_ ?_
  · kernel_rfl
  · intro u hy
    go_simp
  with_reducible refine quiet_one (.int .u16 (q : Int)) ?_ ?_ ?_
  · kernel_rfl
  · intro u hy
    go_simp
  with_reducible refine quiet_one (.pointer (some ⟨y7.heap.size + 1, q, none⟩)) ?_ ?_ ?_
  · kernel_rfl
  · intro u hy
    have ijq := ijq.out
    go_simp
  with_reducible refine quiet_one (.int .u8 V) ?_ ?_ ?_
  · kernel_rfl
  · intro u hy
    have d : u.cell? ⟨y7.heap.size + 1, q, none⟩ = some (.int .u8 V) := by have := hy.mem.cell q hq1.out; rw [if_pos rfl] at this; exact this
    go_simp
  with_reducible refine quiet_one (.pointer (some ⟨y11.heap.size, 20, none⟩)) ?_ ?_ ?_
  · kernel_rfl
  · intro u hy
    go_simp
  with_reducible refine quiet_one (.int .u8 V) ?_ ?_ ?_
  · kernel_rfl
  · intro u hy
    have d : u.cell? ⟨y11.heap.size, 20, none⟩ = some (.int .u8 V) := BoxC.fT (c := (sv c 16387 s c.P c.X V true 112 1)) (hy.get 2 _ _ _ rfl)
    go_simp
  with_reducible refine quiet_one (.bool true) ?_ ?_ ?_
  · kernel_rfl
  · intro u hy
    go_simp
  refine wpQuiet_nil ?_
  intro y17 K17
  replace K17 : Hid _ := K17
  go_simp
  go_wp2
  go_ret
  exact ⟨by first | rfl | simp, K17.out.upd.below (Nat.le_refl _) hg.out⟩
theorem saves_b (w : World) (tb : Tabs w) (c : Cp) (hc : c.wf) (s : Int) (s0 : 0 ≤ s) (s1 : s ≤ 65535) (hch : checkB c = true) (k1 : c.P ≠ 1) (k2 : c.P ≠ 2) (k3 : 16640 ≤ s) : Calls Tryd.prog 4 #[.agg (cpC c), .int .u16 s] w fun e w' => e = .returned (.bool true) ∧ Below w.heap.size w w' := by
  have hA := fun v t => lawake v t
  have hM := fun v => lmay v c hc
  have tb' : Hid (Tabs w) := tb
  have hF : Hid (Fm w [(w.heap.size, cpC c, 29)] (w.alloc (.cells (cpC c) 29))) := Fm.one w c
  rw [hch] at hM
  have hm := (checkB_iff c).1 hch
  have hP15 := hm.1
  have hX15 := hm.2.1
  have hRo : ∀ v : World, Calls Tryd.prog 5 #[.int .i64 16384, .slice (some ⟨v.heap.size, 0, none⟩) 3 3] (v.alloc (.cells #[Value.int IntKind.u8 34, Value.int IntKind.u8 120, Value.int IntKind.u8 112] 5)) fun e w' => e = .returned (.slice (some ⟨v.heap.size + 1, 0, none⟩) 65536 65536) ∧ Hid (Blk w' (v.heap.size + 1) 65536 (laidM 16384 3 (fun j => ([34, 120, 112] : List Int).getD j 0)) ∧ Below v.heap.size v w') := fun v => lroom_lit v 16384 (by decide) [34, 120, 112] (by simp)
  obtain ⟨Y, hYe⟩ : ∃ Y, laidM 16384 ([34, 120, 112] : List Int).length (fun j => ([34, 120, 112] : List Int).getD j 0) = Y := ⟨_, rfl⟩
  have hYe' : laidM 16384 3 (fun j => ([34, 120, 112] : List Int).getD j 0) = Y := hYe
  rw [hYe'] at hRo
  have hY : ∀ j, 0 ≤ Y j ∧ Y j < 256 := fun j => by rw [← hYe]; exact laid_ok 16384 [34, 120, 112] (fun x hx => by simp at hx; omega) j
  have m0 : Y 16384 = 34 := by rw [← hYe]; exact laid_at 16384 [34, 120, 112] 0 _ (by simp) rfl 16384 (by decide)
  have m1 : Y 16385 = 120 := by rw [← hYe]; exact laid_at 16384 [34, 120, 112] 1 _ (by simp) rfl 16385 (by decide)
  have m2 : Y 16386 = 112 := by rw [← hYe]; exact laid_at 16384 [34, 120, 112] 2 _ (by simp) rfl 16386 (by decide)
  obtain ⟨V, hV⟩ : ∃ V : Int, 16 * (c.X : Int) + c.P = V := ⟨_, rfl⟩
  obtain ⟨q, hq⟩ : ∃ q : Nat, ((s - 1) % 65536).toNat = q := ⟨_, rfl⟩
  have hq' : (s - 1) % 65536 = (q : Int) := by omega
  have hq1 : Hid (q < 65536) := (by omega : q < 65536)
  have hall := sv_all c s c.P c.X c.T c.Op Y hP15 hX15 ⟨s0, by omega⟩ (by omega) m0 m1 m2
  rw [hV, hq] at hall
  have wfZ : (sv c 16384 s c.P c.X c.T true c.Op 8).wf := sv_wf hc s ⟨s0, by omega⟩
  have hRu := fun (v : World) (hb : Below w.heap.size w v) (g : Nat) (hg : w.heap.size ≤ g) (hm : Blk v g 65536 Y) => lruns w v tb hb g hg Y hY hm (sv c 16384 s c.P c.X c.T true c.Op 8) wfZ 7 (by decide) _ hall
  obtain ⟨xx, hx⟩ : ∃ x : Int, (c.X : Int) = x := ⟨_, rfl⟩
  obtain ⟨pp, hp⟩ : ∃ x : Int, (c.P : Int) = x := ⟨_, rfl⟩
  have r1 : (pp == 1) = false := by simp; omega
  have r2 : (pp == 2) = false := by simp; omega
  have v1' : IntKind.u8.wrap (16 * xx) = 16 * xx := by rw [IntKind.wrap_u8]; omega
  have v2' : IntKind.u8.wrap (16 * xx + pp) = V := by rw [IntKind.wrap_u8]; omega
  have hqw : IntKind.u16.wrap (s - 1) = (q : Int) := by rw [IntKind.wrap_u16]; omega
  have n1 : Hid ((cpC (sv c 16384 s c.P c.X c.T true c.Op 8)).setIfInBounds 1 (.int .u16 16387) = cpC (sv c 16387 s c.P c.X c.T true c.Op 8)) := (rfl : (cpC (sv c 16384 s c.P c.X c.T true c.Op 8)).setIfInBounds 1 (.int .u16 16387) = cpC (sv c 16387 s c.P c.X c.T true c.Op 8))
  have n0 : Hid ((cpC (sv c 16384 (c.R 2) c.P c.X c.T true c.Op 8)).setIfInBounds 2 (.int .u16 s) = cpC (sv c 16384 s c.P c.X c.T true c.Op 8)) := (rfl : (cpC (sv c 16384 (c.R 2) c.P c.X c.T true c.Op 8)).setIfInBounds 2 (.int .u16 s) = cpC (sv c 16384 s c.P c.X c.T true c.Op 8))
  have zX : Hid ((cpC (sv c 16384 s c.P c.X c.T true c.Op 8))[19]? = some (.int .u8 xx)) := (by rw [← hx]; rfl : (cpC (sv c 16384 s c.P c.X c.T true c.Op 8))[19]? = some (.int .u8 xx))
  have zP : Hid ((cpC (sv c 16384 s c.P c.X c.T true c.Op 8))[18]? = some (.int .u8 pp)) := (by rw [← hp]; rfl : (cpC (sv c 16384 s c.P c.X c.T true c.Op 8))[18]? = some (.int .u8 pp))
  obtain ⟨Z, hZ⟩ : ∃ Z, (sv c 16384 s c.P c.X c.T true c.Op 8) = Z := ⟨_, rfl⟩
  rw [hZ] at hRu n1 n0 zX zP
  have u1 : decide ((16384 : Int) ≤ s) = true := by simp; omega
  have u2 : decide (s < (16640 : Int)) = false := by simp; omega
  have ix1 : Hid (∀ g v, (Instr.indexAt 26 (.pointer (some ⟨g, 0, none⟩)) (.int .i64 1)).run Tryd.prog v = .ok (.pointer (some ⟨g, 1, none⟩)) v) := fun g v => by have := idx (g := g) (off := 0) (N := 16) Tryd.underlying26 infoR .i64 1 v (by decide); simpa using this
  have ix2 : Hid (∀ g v, (Instr.indexAt 26 (.pointer (some ⟨g, 0, none⟩)) (.int .i64 2)).run Tryd.prog v = .ok (.pointer (some ⟨g, 2, none⟩)) v) := fun g v => by have := idx (g := g) (off := 0) (N := 16) Tryd.underlying26 infoR .i64 2 v (by decide); simpa using this
  have ijq : Hid (∀ (g : Nat) v, (Instr.indexAt 23 (.slice (some ⟨g, 0, none⟩) 65536 65536) (.int .u16 (q : Int))).run Tryd.prog v = .ok (.pointer (some ⟨g, q, none⟩)) v) := fun g v => by have := idxS (g := g) (off := 0) (len := 65536) (cap := 65536) Tryd.underlying23 (s := 1) (by kernel_rfl) .u16 q v hq1.out; simpa using this
  have zz := zeroVC
  replace hp : Hid _ := hp
  replace hx : Hid _ := hx
  clear hc tb hch hm hP15 hX15 hYe hYe' hY m0 m1 m2 hall wfZ hZ k1 k2 k3 hV hq
  go_enter Tryd.func4, Tryd.ntmps4
  go_wp2_with (first
    | (refine gen_world (w.alloc (.cells (cpC c) 29)) (Fm w [(w.heap.size, cpC c, 29)]) hF.out ?_; intro y K0)
    | (go_at_call 8; refine (hA _ (tb'.out.below K0.out.low)).mono ?_; rintro e v1 ⟨rfl, hb1⟩; have K1 : Hid _ := K0.out.below hb1)
    | (refine at_loadC w.heap.size c (K1.out.get 0 _ _ _ rfl) _ rfl rfl rfl ?_)
    | (go_at_call 9; refine (hM _).mono ?_; rintro e v2 ⟨rfl, hb2⟩; have K2 : Hid _ := K1.out.below hb2; have kP1 := BoxC.fPh (K2.out.get 0 _ _ _ rfl); have zP1 := frozen_heap (K2.out.get 0 _ _ _ rfl) 25; have P1 : Hid (Fm w [(w.heap.size, cpC { c with Ph := 8 }, 29)] (v2.setCell ⟨w.heap.size, 25, none⟩ (.int .u8 8))) := K2.out.setCell 0 _ _ _ _ rfl 25 _ rfl)
    | (refine gen_world (v2.setCell ⟨w.heap.size, 25, none⟩ (.int .u8 8)) (Fm w [(w.heap.size, cpC { c with Ph := 8 }, 29)]) P1.out ?_; intro y3 K3; have kP2 := BoxC.fB (K3.out.get 0 _ _ _ rfl); have zP2 := frozen_heap (K3.out.get 0 _ _ _ rfl) 24; have P2 : Hid (Fm w [(w.heap.size, cpC { c with Ph := 8, B := 0 }, 29)] (y3.setCell ⟨w.heap.size, 24, none⟩ (.int .u8 0))) := K3.out.setCell 0 _ _ _ _ rfl 24 _ rfl)
    | (refine gen_world (y3.setCell ⟨w.heap.size, 24, none⟩ (.int .u8 0)) (Fm w [(w.heap.size, cpC { c with Ph := 8, B := 0 }, 29)]) P2.out ?_; intro y4 K4; have kP3 := BoxC.fIE (K4.out.get 0 _ _ _ rfl); have zP3 := frozen_heap (K4.out.get 0 _ _ _ rfl) 21; have P3 : Hid (Fm w [(w.heap.size, cpC { c with Ph := 8, B := 0, IE := true }, 29)] (y4.setCell ⟨w.heap.size, 21, none⟩ (.bool true))) := K4.out.setCell 0 _ _ _ _ rfl 21 _ rfl)
    | (refine gen_world (y4.setCell ⟨w.heap.size, 21, none⟩ (.bool true)) (Fm w [(w.heap.size, cpC { c with Ph := 8, B := 0, IE := true }, 29)]) P3.out ?_; intro y5 K5; have dP : y5.cell? ⟨w.heap.size, 18, none⟩ = some (.int .u8 (c.P : Int)) := BoxC.fP (c := { c with Ph := 8, B := 0, IE := true }) (K5.out.get 0 _ _ _ rfl); rw [hp.out] at dP; refine stopAt ?_))
  refine Stop.go ?_
  replace ix1 := ix1.out
  replace ix2 := ix2.out
  have d1 := BoxC.r (K5.out.get 0 _ _ _ rfl) 1 (by decide)
  have z1 := frozen_heap (K5.out.get 0 _ _ _ rfl) 1
  have Q1 : Hid (Fm w [(w.heap.size, cpC (sv c 16384 (c.R 2) c.P c.X c.T true c.Op 8), 29)] (y5.setCell ⟨w.heap.size, 1, none⟩ (.int .u16 16384))) := K5.out.setCell 0 _ _ _ _ rfl 1 _ rfl
  clear K0 K1 K2 K3 K4 P1 P2 P3 hb1 hb2
  go_wp2_with (first
    | ((with_reducible refine gen_world _ (Fm w [(w.heap.size, cpC (sv c 16384 (c.R 2) c.P c.X c.T true c.Op 8), 29)]) ?_ ?_); exact Q1.out; intro y6 K6; have d2 := BoxC.r (K6.out.get 0 _ _ _ rfl) 2 (by decide); have z2 := frozen_heap (K6.out.get 0 _ _ _ rfl) 2; have Q2 : Hid (Fm w [(w.heap.size, cpC Z, 29)] (y6.setCell ⟨w.heap.size, 2, none⟩ (.int .u16 s))) := K6.out.setCell 0 _ _ _ _ rfl 2 _ n0.out)
    | ((with_reducible refine gen_world _ (Fm w [(w.heap.size, cpC Z, 29)]) ?_ ?_); exact Q2.out; intro y7 K7)
    | (go_at_call_of 5 (Value.int IntKind.i64 16384); refine (hRo y7).mono ?_; rintro e v8 ⟨rfl, hr8⟩; have K8 : Hid (Fb w [(w.heap.size, cpC Z, 29)] (y7.heap.size + 1) Y v8) := Fb.of (K7.out.below hr8.out.2) hr8.out.1 (fun i b cs t e => by have := heap_lt (K7.out.get i b cs t e); omega); have hg : Hid (w.heap.size ≤ (y7.heap.size + 1)) := Nat.le_succ_of_le K7.out.low.size)
    | (go_at_call 6; refine (hRu _ (K8.out.upd.below (Nat.le_refl _) hg.out) (y7.heap.size + 1) hg.out K8.out.mem).mono ?_; rintro e v9 ⟨rfl, hb9⟩; have K9 : Hid (Fb w [(w.heap.size, cpC Z, 29)] (y7.heap.size + 1) (fun j => if j = q then V else Y j) v9) := K8.out.mov hb9.out.1 hb9.out.2)
    | ((with_reducible refine gen_world _ (Fb w [(w.heap.size, cpC Z, 29), (v9.heap.size, cpC zeroC, 29)] (y7.heap.size + 1) (fun j => if j = q then V else Y j)) ?_ ?_); exact K9.out.new _ _; intro y10 K10)
    | ((with_reducible refine at_storeC v9.heap.size zeroC (sv c 16387 s c.P c.X V true 112 1) ?_ (.tmp 8) (.tmp 48) ?_ ?_ ?_ ?_ ?_); exact K10.out.get 1 _ _ _ rfl; rfl; rfl; rfl; rfl; intro y11 hw11; have K11 : Hid (Fb w [(w.heap.size, cpC Z, 29), (v9.heap.size, cpC (sv c 16387 s c.P c.X V true 112 1), 29)] (y7.heap.size + 1) (fun j => if j = q then V else Y j) y11) := K10.out.put 1 _ _ _ _ rfl hw11.out)
    | ((with_reducible refine gen_world _ (Fb w [(w.heap.size, cpC Z, 29), (v9.heap.size, cpC (sv c 16387 s c.P c.X V true 112 1), 29), (y11.heap.size, cpC zeroC, 29)] (y7.heap.size + 1) (fun j => if j = q then V else Y j)) ?_ ?_); exact K11.out.new _ _; intro y12 K12)
    | ((with_reducible refine at_storeC y11.heap.size zeroC Z ?_ (.tmp 9) (.tmp 49) ?_ ?_ ?_ ?_ ?_); exact K12.out.get 2 _ _ _ rfl; rfl; rfl; rfl; rfl; intro y13 hw13; have K13 : Hid (Fb w [(w.heap.size, cpC Z, 29), (v9.heap.size, cpC (sv c 16387 s c.P c.X V true 112 1), 29), (y11.heap.size, cpC Z, 29)] (y7.heap.size + 1) (fun j => if j = q then V else Y j) y13) := K12.out.put 2 _ _ _ _ rfl hw13.out; have kU1 := BoxC.r (K13.out.get 2 _ _ _ rfl) 1 (by decide); have zU1 := frozen_heap (K13.out.get 2 _ _ _ rfl) 1; have U1 : Hid (Fb w [(w.heap.size, cpC Z, 29), (v9.heap.size, cpC (sv c 16387 s c.P c.X V true 112 1), 29), (y11.heap.size, cpC (sv c 16387 s c.P c.X c.T true c.Op 8), 29)] (y7.heap.size + 1) (fun j => if j = q then V else Y j) (y13.setCell ⟨y11.heap.size, 1, none⟩ (.int .u16 16387))) := K13.out.setCell 2 _ _ _ _ rfl 1 _ n1.out)
    | ((with_reducible refine gen_world _ (Fb w [(w.heap.size, cpC Z, 29), (v9.heap.size, cpC (sv c 16387 s c.P c.X V true 112 1), 29), (y11.heap.size, cpC (sv c 16387 s c.P c.X c.T true c.Op 8), 29)] (y7.heap.size + 1) (fun j => if j = q then V else Y j)) ?_ ?_); exact U1.out; intro y14 K14; have tX := BoxC.f (K14.out.get 0 _ _ _ rfl) 19 _ zX.out; have tP := BoxC.f (K14.out.get 0 _ _ _ rfl) 18 _ zP.out; have kU2 := BoxC.fT (K14.out.get 2 _ _ _ rfl); have zU2 := frozen_heap (K14.out.get 2 _ _ _ rfl) 20; have U2 : Hid (Fb w [(w.heap.size, cpC Z, 29), (v9.heap.size, cpC (sv c 16387 s c.P c.X V true 112 1), 29), (y11.heap.size, cpC (sv c 16387 s c.P c.X V true c.Op 8), 29)] (y7.heap.size + 1) (fun j => if j = q then V else Y j) (y14.setCell ⟨y11.heap.size, 20, none⟩ (.int .u8 V))) := K14.out.setCell 2 _ _ _ _ rfl 20 _ rfl)
    | ((with_reducible refine gen_world _ (Fb w [(w.heap.size, cpC Z, 29), (v9.heap.size, cpC (sv c 16387 s c.P c.X V true 112 1), 29), (y11.heap.size, cpC (sv c 16387 s c.P c.X V true c.Op 8), 29)] (y7.heap.size + 1) (fun j => if j = q then V else Y j)) ?_ ?_); exact U2.out; intro y15 K15; have kU3 := BoxC.fOp (K15.out.get 2 _ _ _ rfl); have zU3 := frozen_heap (K15.out.get 2 _ _ _ rfl) 23; have U3 : Hid (Fb w [(w.heap.size, cpC Z, 29), (v9.heap.size, cpC (sv c 16387 s c.P c.X V true 112 1), 29), (y11.heap.size, cpC (sv c 16387 s c.P c.X V true 112 8), 29)] (y7.heap.size + 1) (fun j => if j = q then V else Y j) (y15.setCell ⟨y11.heap.size, 23, none⟩ (.int .u8 112))) := K15.out.setCell 2 _ _ _ _ rfl 23 _ rfl)
    | ((with_reducible refine gen_world _ (Fb w [(w.heap.size, cpC Z, 29), (v9.heap.size, cpC (sv c 16387 s c.P c.X V true 112 1), 29), (y11.heap.size, cpC (sv c 16387 s c.P c.X V true 112 8), 29)] (y7.heap.size + 1) (fun j => if j = q then V else Y j)) ?_ ?_); exact U3.out; intro y16 K16; have kU4 := BoxC.fPh (K16.out.get 2 _ _ _ rfl); have zU4 := frozen_heap (K16.out.get 2 _ _ _ rfl) 25; have U4 : Hid (Fb w [(w.heap.size, cpC Z, 29), (v9.heap.size, cpC (sv c 16387 s c.P c.X V true 112 1), 29), (y11.heap.size, cpC (sv c 16387 s c.P c.X V true 112 1), 29)] (y7.heap.size + 1) (fun j => if j = q then V else Y j) (y16.setCell ⟨y11.heap.size, 25, none⟩ (.int .u8 1))) := K16.out.setCell 2 _ _ _ _ rfl 25 _ rfl)
    | ((with_reducible refine at_loadC w.heap.size Z ?_ (.tmp 2) ?_ ?_ ?_ ?_); exact K11.out.get 0 _ _ _ rfl; rfl; rfl; rfl)
    | ((with_reducible refine at_loadC w.heap.size Z ?_ (.tmp 2) ?_ ?_ ?_ ?_); exact K8.out.get 0 _ _ _ rfl; rfl; rfl; rfl))
  refine region_class_tail 12 (Fb w [(w.heap.size, cpC Z, 29), (v9.heap.size, cpC (sv c 16387 s c.P c.X V true 112 1), 29), (y11.heap.size, cpC (sv c 16387 s c.P c.X V true 112 1), 29)] (y7.heap.size + 1) (fun j => if j = q then V else Y j)) (by kernel_rfl) (by kernel_rfl) (U4.out.below (below_drew (Below.refl _ _))) ?_
  simp only [List.take_succ_cons, List.take_zero, List.drop_succ_cons, List.drop_zero]
  refine quiet_one (.agg (cpC (sv c 16387 s c.P c.X V true 112 1))) rfl (quiet_loadC v9.heap.size (sv c 16387 s c.P c.X V true 112 1) (fun _ h => h.get 1 _ _ _ rfl) (.tmp 8) rfl (by go_simp)) ?_
  refine quiet_one (.agg (cpC (sv c 16387 s c.P c.X V true 112 1))) rfl (fun u hy => by
    generalize ha : Act.put _ _ _ = a
    have e9 : a.eval (.tmp 9) = .pointer (some ⟨y11.heap.size, 0, none⟩) := by rw [← ha]; go_simp
    clear ha
    exact quiet_loadC (C := Fb w [(w.heap.size, cpC Z, 29), (v9.heap.size, cpC (sv c 16387 s c.P c.X V true 112 1), 29), (y11.heap.size, cpC (sv c 16387 s c.P c.X V true 112 1), 29)] (y7.heap.size + 1) (fun j => if j = q then V else Y j)) y11.heap.size (sv c 16387 s c.P c.X V true 112 1) (fun _ h => h.get 2 _ _ _ rfl) (.tmp 9) rfl e9 u hy) ?_
  refine quiet_one (.bool true) rfl (fun u hy => by
    generalize ha : Act.put _ _ _ = a
    have e61 : a.eval (.tmp 61) = .agg (cpC (sv c 16387 s c.P c.X V true 112 1)) := by rw [← ha]; go_simp
    have e62 : a.eval (.tmp 62) = .agg (cpC (sv c 16387 s c.P c.X V true 112 1)) := by rw [← ha]; go_simp
    clear ha
    exact quiet_eqC (C := Fb w [(w.heap.size, cpC Z, 29), (v9.heap.size, cpC (sv c 16387 s c.P c.X V true 112 1), 29), (y11.heap.size, cpC (sv c 16387 s c.P c.X V true 112 1), 29)] (y7.heap.size + 1) (fun j => if j = q then V else Y j)) (sv c 16387 s c.P c.X V true 112 1) (sv c 16387 s c.P c.X V true 112 1) rfl (.tmp 61) (.tmp 62) _ rfl e61 e62 u hy) ?_
  refine quiet_one (.bool true) rfl (fun u hy => by go_simp) ?_
  with_reducible refine quiet_one (.slice (some ⟨y7.heap.size + 1, 0, none⟩) 65536 65536) ?_ ?_ ?_
  · kernel_rfl
  · intro u hy
    go_simp
  with_reducible refine quiet_one (.int .u16 s) ?_ ?_ ?_
  · kernel_rfl
  · intro u hy
    go_simp
  with_reducible refine quiet_one (.int .u16 (q : Int)) ?_ ?_ ?_
  · kernel_rfl
  · intro u hy
    go_simp
  with_reducible refine quiet_one (.pointer (some ⟨y7.heap.size + 1, q, none⟩)) ?_ ?_ ?_
  · kernel_rfl
  · intro u hy
    have ijq := ijq.out
    go_simp
  with_reducible refine quiet_one (.int .u8 V) ?_ ?_ ?_
  · kernel_rfl
  · intro u hy
    have d : u.cell? ⟨y7.heap.size + 1, q, none⟩ = some (.int .u8 V) := by have := hy.mem.cell q hq1.out; rw [if_pos rfl] at this; exact this
    go_simp
  with_reducible refine quiet_one (.pointer (some ⟨y11.heap.size, 20, none⟩)) ?_ ?_ ?_
  · kernel_rfl
  · intro u hy
    go_simp
  with_reducible refine quiet_one (.int .u8 V) ?_ ?_ ?_
  · kernel_rfl
  · intro u hy
    have d : u.cell? ⟨y11.heap.size, 20, none⟩ = some (.int .u8 V) := BoxC.fT (c := (sv c 16387 s c.P c.X V true 112 1)) (hy.get 2 _ _ _ rfl)
    go_simp
  with_reducible refine quiet_one (.bool true) ?_ ?_ ?_
  · kernel_rfl
  · intro u hy
    go_simp
  refine wpQuiet_nil ?_
  intro y17 K17
  replace K17 : Hid _ := K17
  go_simp
  go_wp2
  go_ret
  exact ⟨by first | rfl | simp, K17.out.upd.below (Nat.le_refl _) hg.out⟩
theorem saves_walk (w : World) (tb : Tabs w) (c : Cp) (hc : c.wf) (s : Int) (s0 : 0 ≤ s) (s1 : s ≤ 65535) : Calls Tryd.prog 4 #[.agg (cpC c), .int .u16 s] w fun e w' => e = .returned (.bool true) ∧ Below w.heap.size w w' := by
  rcases hch : checkB c with _ | _
  · exact saves_no w tb c hc s s0 s1 hch
  by_cases k1 : c.P = 1
  · exact saves_p1 w tb c hc s s0 s1 hch k1
  by_cases k2 : c.P = 2
  · exact saves_p2 w tb c hc s s0 s1 hch k2
  rcases (show (16384 ≤ s ∧ s < 16640) ∨ s < 16384 ∨ 16640 ≤ s by omega) with ⟨k3, k4⟩ | k3 | k3
  · exact saves_ps w tb c hc s s0 s1 hch k1 k2 k3 k4
  · exact saves_a w tb c hc s s0 s1 hch k1 k2 k3
  · exact saves_b w tb c hc s s0 s1 hch k1 k2 k3
end Go.Proofs.YtbeeefekndcgnabDoor
