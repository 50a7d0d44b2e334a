/- CPUMay: what may not be; a mode that is none -/
import Derived.Test.YtbeeefekndcgnaaDoorMy
namespace Go.Proofs.YtbeeefekndcgnaaDoor
open Go Go.RowKit
set_option linter.unusedVariables false
set_option maxHeartbeats 4000000
set_option maxRecDepth 20000

theorem may_no (w : World) (c : Cp) (hc : c.wf) (p : Pn) (hp : p.wf) (q : Pn) (hq : q.wf) (tb : Tabs w) (hch : checkB c = false) : Calls Tryd.prog 3 #[.agg (cpC c), .agg (pnC p), .agg (pnC q)] w fun e w' => e = .returned (.bool true) ∧ Below w.heap.size w w' := by
  have hM := fun v => lmay v c hc
  have hkS := fun v t => ycheck v startM startM_wf t
  rw [check_start] at hkS
  have hkc := fun v t => ycheck v c hc t
  have hSt := fun v => ystart v
  have s25 : Hid ((cpC startM)[25]? = some (.int .u8 5)) := (rfl : (cpC startM)[25]? = some (.int .u8 5))
  obtain ⟨S, hSe⟩ : ∃ S, startM = S := ⟨_, rfl⟩
  rw [hSe] at hkS hSt s25
  have tb' : Hid (Tabs w) := tb
  have hF : Hid (Fm w [(w.heap.size, cpC c, 26), (w.heap.size + 1, pnC p, 30), (w.heap.size + 2, pnC q, 30)] (((w.alloc (.cells (cpC c) 26)).alloc (.cells (pnC p) 30)).alloc (.cells (pnC q) 30))) := Fm.three w c p q
  have zz := zeroVC
  have zd := zeroVD
  rw [hch] at hM
  have ec : checkM c = 40 := by unfold checkM; rw [hch]; rfl
  rw [ec] at hkc
  have hS := fun v t => ystep v c hc p hp t
  rw [step_none hch] at hS
  have hD := fun v t => ydrive v c hc t p.Mode hp.Mode
  rw [drive_none hch] at hD
  obtain ⟨m, hm⟩ : ∃ m : Int, (p.Mode : Int) = m := ⟨_, rfl⟩
  rw [hm] at hD
  replace hm : Hid _ := hm
  clear hc hp hq tb hch ec hSe
  go_enter Tryd.func3, Tryd.ntmps3
  go_wp2_with (first
    | ((with_reducible refine gen_world _ (Fm w [(w.heap.size, cpC c, 26), (w.heap.size + 1, pnC p, 30), (w.heap.size + 2, pnC q, 30)]) ?_ ?_); exact hF.out; intro y0 K0)
    | (go_at_call 7; refine (hSt _).mono ?_; rintro e v1 ⟨rfl, hb1⟩; have K1 : Hid _ := K0.out.below hb1)
    | ((with_reducible refine gen_world _ (Fm w [(w.heap.size, cpC c, 26), (w.heap.size + 1, pnC p, 30), (w.heap.size + 2, pnC q, 30), (v1.heap.size, cpC zeroC, 26)]) ?_ ?_); exact K1.out.new _ _; intro y2 K2)
    | ((with_reducible refine at_storeC v1.heap.size zeroC S ?_ (.tmp 7) (.tmp 16) ?_ ?_ ?_ ?_ ?_); exact K2.out.get 3 _ _ _ rfl; rfl; rfl; rfl; rfl; intro y3 hw3; have K3 : Hid (Fm w [(w.heap.size, cpC c, 26), (w.heap.size + 1, pnC p, 30), (w.heap.size + 2, pnC q, 30), (v1.heap.size, cpC S, 26)] y3) := K2.out.put 3 _ _ _ _ rfl hw3.out)
    | (go_at_call 8; refine (hM _).mono ?_; rintro e v4 ⟨rfl, hb4⟩; have K4 : Hid _ := K3.out.below hb4)
    | (go_at_call 9; refine (hkc _ (tb'.out.below K5.out.low)).mono ?_; rintro e v6 ⟨rfl, hb6⟩; have K6 : Hid _ := K5.out.below hb6; refine stopAt ?_)
    | (go_at_call 9; refine (hkS _ (tb'.out.below K4.out.low)).mono ?_; rintro e v5 ⟨rfl, hb5⟩; have K5 : Hid _ := K4.out.below hb5; have d25 := BoxC.f (K5.out.get 3 _ _ _ rfl) 25 _ s25.out)
    | ((with_reducible refine at_loadCg w.heap.size c ?_ (.tmp 3) ?_ ?_ ?_ ?_); rotate_left 2; rfl; rfl; rotate_left 1; exact K5.out.get 0 _ _ _ rfl; kernel_rfl)
    | ((with_reducible refine at_loadCg v1.heap.size S ?_ (.tmp 7) ?_ ?_ ?_ ?_); rotate_left 2; rfl; rfl; rotate_left 1; exact K4.out.get 3 _ _ _ rfl; kernel_rfl)
    | ((with_reducible refine at_loadCg w.heap.size c ?_ (.tmp 3) ?_ ?_ ?_ ?_); rotate_left 2; rfl; rfl; rotate_left 1; exact K3.out.get 0 _ _ _ rfl; kernel_rfl))
  refine Stop.go ?_
  clear K0 K1 K2 K3 K4 K5 hw3 hb1 hb4 hb5 hb6 hF d25
  go_wp2_with (first
    | (go_at_call 11; refine (hD _ (tb'.out.below K7.out.low)).mono ?_; rintro e v8 ⟨rfl, hb8⟩; have K8 : Hid _ := K7.out.below hb8)
    | (go_at_call 10; refine (hS _ (tb'.out.below K6.out.low)).mono ?_; rintro e v7 ⟨rfl, hb7⟩; have K7 : Hid _ := K6.out.below hb7; have dM := BoxP.fMode (K7.out.get 1 _ _ _ rfl); rw [hm.out] at dM)
    | ((with_reducible refine want0 ?_ ?_ ?_); rotate_left 1; rfl; rotate_left 1; kernel_rfl)
    | ((with_reducible refine at_eqC zeroC zeroC rfl (.tmp 38) (.tmp 39) 26 ?_ ?_ ?_ ?_ ?_); rotate_left 1; rfl; rfl; rfl; rotate_left 1; kernel_rfl)
    | ((with_reducible refine wantD #[] [] zeroD ?_ ?_ ?_ (by kernel_rfl) (some 46) ?_ ?_); rotate_left 1; rfl; kernel_rfl; rfl; rotate_left 1; kernel_rfl)
    | ((with_reducible refine at_eqD zeroD zeroD rfl (.tmp 45) (.tmp 46) 37 ?_ ?_ ?_ ?_ ?_); rotate_left 1; rfl; rfl; rfl; rotate_left 1; kernel_rfl)
    | ((with_reducible refine at_loadCg w.heap.size c ?_ (.tmp 3) ?_ ?_ ?_ ?_); rotate_left 2; rfl; rfl; rotate_left 1; exact K7.out.get 0 _ _ _ rfl; kernel_rfl)
    | ((with_reducible refine at_loadCg w.heap.size c ?_ (.tmp 3) ?_ ?_ ?_ ?_); rotate_left 2; rfl; rfl; rotate_left 1; exact K6.out.get 0 _ _ _ rfl; kernel_rfl)
    | ((with_reducible refine at_loadP (w.heap.size + 1) p ?_ (.tmp 4) ?_ ?_ ?_ ?_); exact K6.out.get 1 _ _ _ rfl; rfl; rfl; rfl))
  go_ret
  exact ⟨by first | rfl | simp, K8.out.low⟩
theorem may_mode (w : World) (c : Cp) (hc : c.wf) (p : Pn) (hp : p.wf) (q : Pn) (hq : q.wf) (tb : Tabs w) (hch : checkB c = true) (h3 : 3 < p.Mode) : Calls Tryd.prog 3 #[.agg (cpC c), .agg (pnC p), .agg (pnC q)] w fun e w' => e = .returned (.bool true) ∧ Below w.heap.size w w' := by
  have hM := fun v => lmay v c hc
  have hkS := fun v t => ycheck v startM startM_wf t
  rw [check_start] at hkS
  have hkc := fun v t => ycheck v c hc t
  have hSt := fun v => ystart v
  have s25 : Hid ((cpC startM)[25]? = some (.int .u8 5)) := (rfl : (cpC startM)[25]? = some (.int .u8 5))
  obtain ⟨S, hSe⟩ : ∃ S, startM = S := ⟨_, rfl⟩
  rw [hSe] at hkS hSt s25
  have tb' : Hid (Tabs w) := tb
  have hF : Hid (Fm w [(w.heap.size, cpC c, 26), (w.heap.size + 1, pnC p, 30), (w.heap.size + 2, pnC q, 30)] (((w.alloc (.cells (cpC c) 26)).alloc (.cells (pnC p) 30)).alloc (.cells (pnC q) 30))) := Fm.three w c p q
  have zz := zeroVC
  have zd := zeroVD
  rw [hch] at hM
  have ec : checkM c = 0 := by unfold checkM; rw [hch]; rfl
  rw [ec] at hkc
  have hS := fun v t => ystep v c hc p hp t
  rw [step_mode p h3] at hS
  have hD := fun v t => ydrive v c hc t p.Mode hp.Mode
  rw [drive_mode p.Mode h3] at hD
  obtain ⟨m, hm⟩ : ∃ m : Int, (p.Mode : Int) = m := ⟨_, rfl⟩
  rw [hm] at hD
  have h3' : decide ((3 : Int) < m) = true := by simp; omega
  replace hm : Hid _ := hm
  clear hc hp hq tb hch ec hSe h3
  go_enter Tryd.func3, Tryd.ntmps3
  go_wp2_with (first
    | ((with_reducible refine gen_world _ (Fm w [(w.heap.size, cpC c, 26), (w.heap.size + 1, pnC p, 30), (w.heap.size + 2, pnC q, 30)]) ?_ ?_); exact hF.out; intro y0 K0)
    | (go_at_call 7; refine (hSt _).mono ?_; rintro e v1 ⟨rfl, hb1⟩; have K1 : Hid _ := K0.out.below hb1)
    | ((with_reducible refine gen_world _ (Fm w [(w.heap.size, cpC c, 26), (w.heap.size + 1, pnC p, 30), (w.heap.size + 2, pnC q, 30), (v1.heap.size, cpC zeroC, 26)]) ?_ ?_); exact K1.out.new _ _; intro y2 K2)
    | ((with_reducible refine at_storeC v1.heap.size zeroC S ?_ (.tmp 7) (.tmp 16) ?_ ?_ ?_ ?_ ?_); exact K2.out.get 3 _ _ _ rfl; rfl; rfl; rfl; rfl; intro y3 hw3; have K3 : Hid (Fm w [(w.heap.size, cpC c, 26), (w.heap.size + 1, pnC p, 30), (w.heap.size + 2, pnC q, 30), (v1.heap.size, cpC S, 26)] y3) := K2.out.put 3 _ _ _ _ rfl hw3.out)
    | (go_at_call 8; refine (hM _).mono ?_; rintro e v4 ⟨rfl, hb4⟩; have K4 : Hid _ := K3.out.below hb4)
    | (go_at_call 9; refine (hkc _ (tb'.out.below K5.out.low)).mono ?_; rintro e v6 ⟨rfl, hb6⟩; have K6 : Hid _ := K5.out.below hb6; refine stopAt ?_)
    | (go_at_call 9; refine (hkS _ (tb'.out.below K4.out.low)).mono ?_; rintro e v5 ⟨rfl, hb5⟩; have K5 : Hid _ := K4.out.below hb5; have d25 := BoxC.f (K5.out.get 3 _ _ _ rfl) 25 _ s25.out)
    | ((with_reducible refine at_loadCg w.heap.size c ?_ (.tmp 3) ?_ ?_ ?_ ?_); rotate_left 2; rfl; rfl; rotate_left 1; exact K5.out.get 0 _ _ _ rfl; kernel_rfl)
    | ((with_reducible refine at_loadCg v1.heap.size S ?_ (.tmp 7) ?_ ?_ ?_ ?_); rotate_left 2; rfl; rfl; rotate_left 1; exact K4.out.get 3 _ _ _ rfl; kernel_rfl)
    | ((with_reducible refine at_loadCg w.heap.size c ?_ (.tmp 3) ?_ ?_ ?_ ?_); rotate_left 2; rfl; rfl; rotate_left 1; exact K3.out.get 0 _ _ _ rfl; kernel_rfl))
  refine Stop.go ?_
  clear K0 K1 K2 K3 K4 K5 hw3 hb1 hb4 hb5 hb6 hF d25
  go_wp2_with (first
    | (go_at_call 11; refine (hD _ (tb'.out.below K9.out.low)).mono ?_; rintro e v10 ⟨rfl, hb10⟩; have K10 : Hid _ := K9.out.below hb10)
    | ((with_reducible refine want0 ?_ ?_ ?_); rotate_left 1; rfl; rotate_left 1; kernel_rfl)
    | ((with_reducible refine at_eqC zeroC zeroC rfl (.tmp 55) (.tmp 56) 26 ?_ ?_ ?_ ?_ ?_); rotate_left 1; rfl; rfl; rfl; rotate_left 1; kernel_rfl)
    | ((with_reducible refine wantD #[] [] zeroD ?_ ?_ ?_ (by kernel_rfl) (some 63) ?_ ?_); rotate_left 1; rfl; kernel_rfl; rfl; rotate_left 1; kernel_rfl)
    | ((with_reducible refine at_eqD zeroD zeroD rfl (.tmp 62) (.tmp 63) 37 ?_ ?_ ?_ ?_ ?_); rotate_left 1; rfl; rfl; rfl; rotate_left 1; kernel_rfl)
    | ((with_reducible refine at_loadCg v7.heap.size zeroC ?_ (.tmp 9) ?_ ?_ ?_ ?_); rotate_left 2; rfl; rfl; rotate_left 1; exact K9.out.get 4 _ _ _ rfl; kernel_rfl)
    | ((with_reducible refine at_loadCg w.heap.size c ?_ (.tmp 3) ?_ ?_ ?_ ?_); rotate_left 2; rfl; rfl; rotate_left 1; exact K9.out.get 0 _ _ _ rfl; kernel_rfl)
    | (go_at_call 10; refine (hS _ (tb'.out.below K6.out.low)).mono ?_; rintro e v7 ⟨rfl, hb7⟩; have K7 : Hid _ := K6.out.below hb7)
    | ((with_reducible refine gen_world _ (Fm w [(w.heap.size, cpC c, 26), (w.heap.size + 1, pnC p, 30), (w.heap.size + 2, pnC q, 30), (v1.heap.size, cpC S, 26), (v7.heap.size, cpC zeroC, 26)]) ?_ ?_); exact K7.out.new _ _; intro y8 K8)
    | ((with_reducible refine at_storeC v7.heap.size zeroC zeroC ?_ (.tmp 9) (.tmp 51) ?_ ?_ ?_ ?_ ?_); exact K8.out.get 4 _ _ _ rfl; rfl; rfl; rfl; rfl; intro y9 hw9; have K9 : Hid (Fm w [(w.heap.size, cpC c, 26), (w.heap.size + 1, pnC p, 30), (w.heap.size + 2, pnC q, 30), (v1.heap.size, cpC S, 26), (v7.heap.size, cpC zeroC, 26)] y9) := K8.out.put 4 _ _ _ _ rfl hw9.out; have dM := BoxP.fMode (K9.out.get 1 _ _ _ rfl); rw [hm.out] at dM)
    | ((with_reducible refine at_loadCg w.heap.size c ?_ (.tmp 3) ?_ ?_ ?_ ?_); rotate_left 2; rfl; rfl; rotate_left 1; exact K6.out.get 0 _ _ _ rfl; kernel_rfl)
    | ((with_reducible refine at_loadP (w.heap.size + 1) p ?_ (.tmp 4) ?_ ?_ ?_ ?_); exact K6.out.get 1 _ _ _ rfl; rfl; rfl; rfl))
  go_ret
  exact ⟨by first | rfl | simp, K10.out.low⟩
end Go.Proofs.YtbeeefekndcgnaaDoor
