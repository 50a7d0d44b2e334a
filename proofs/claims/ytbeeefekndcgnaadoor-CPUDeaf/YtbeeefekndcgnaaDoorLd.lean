/- The statements' own sign of life: the power comes on, and LDI is fetched. -/
import Derived.Test.YtbeeefekndcgnaaDoorLc
namespace Go.Proofs.YtbeeefekndcgnaaDoor
open Go Go.RowKit
set_option linter.unusedVariables false
set_option maxHeartbeats 1000000
set_option maxRecDepth 20000

def ldiP : Pn := ⟨0, 248, fun _ => false, false, false, false⟩
theorem ldiP_wf : ldiP.wf := ⟨(by decide : 0 < 256), (by decide : (0 : Int) ≤ 248 ∧ (248 : Int) < 256)⟩
def ldiC : Cp := { ({ bg 0 with Op := 248 }.up 0) with Ph := 2 }
theorem step_ldi : cpC (stepM (bg 0) ldiP) = cpC ldiC := by kernel_rfl
theorem drive_bg : dvC (driveM (bg 0) 0) = dvC ⟨0, 0, true, false, false, 0, 0, true⟩ := by kernel_rfl
theorem check_bg : checkM (bg 0) = 0 := by kernel_rfl
theorem lawake (w : World) (tb : Tabs w) : Calls Tryd.prog 12 #[] w fun e w' => e = .returned (.bool true) ∧ Below w.heap.size w w' := by
  have hbg := fun v t => lbegun v t 0
  have wfb := bg_wf 0 (by decide)
  have hs := fun v t => ystep v (bg 0) wfb ldiP ldiP_wf t
  rw [step_ldi] at hs
  have hd := fun v t => ydrive v (bg 0) wfb t 0 (by decide)
  rw [drive_bg] at hd
  have hk := fun v t => ycheck v (bg 0) wfb t
  rw [check_bg] at hk
  obtain ⟨B, hB⟩ : ∃ B, bg 0 = B := ⟨_, rfl⟩
  rw [hB] at hbg hs hd hk
  have r0 : Hid ((cpC ldiC)[0]? = some (.int .u16 1)) := (rfl : (cpC ldiC)[0]? = some (.int .u16 1))
  have r23 : Hid ((cpC ldiC)[23]? = some (.int .u8 248)) := (rfl : (cpC ldiC)[23]? = some (.int .u8 248))
  have r25 : Hid ((cpC ldiC)[25]? = some (.int .u8 2)) := (rfl : (cpC ldiC)[25]? = some (.int .u8 2))
  obtain ⟨L, hL⟩ : ∃ L, ldiC = L := ⟨_, rfl⟩
  rw [hL] at hs r0 r23 r25
  obtain ⟨D, hD⟩ : ∃ D : Dv, (⟨0, 0, true, false, false, 0, 0, true⟩ : Dv) = D := ⟨_, rfl⟩
  have hbD : Hid (Tryd.prog.built 37 [(0, .int .u8 0), (2, .bool true), (7, .bool true)] = some (dvC D)) := by rw [← hD]; exact (by kernel_rfl : Tryd.prog.built 37 [(0, .int .u8 0), (2, .bool true), (7, .bool true)] = some (dvC ⟨0, 0, true, false, false, 0, 0, true⟩))
  rw [hD] at hd
  have zz := zeroVC
  have zd := zeroVD
  have tb' : Hid (Tabs w) := tb
  have hF : Hid (Fm w [] w) := Fm.nil w
  clear tb wfb hB hL hD
  go_enter Tryd.func12, Tryd.ntmps12
  go_wp2_with (first
    | (go_at_call_of 15 (Value.int IntKind.u16 0); refine (hbg _ tb'.out).mono ?_; rintro e v1 ⟨rfl, hb1⟩; have K1 : Hid (Fm w [] v1) := hF.out.below hb1)
    | (refine gen_world (v1.alloc (.cells (cpC zeroC) 26)) (Fm w [(v1.heap.size, cpC zeroC, 26)]) (K1.out.new _ _) ?_; intro y2 K2)
    | (refine at_storeC v1.heap.size zeroC B (K2.out.get 0 _ _ _ rfl) _ _ rfl rfl rfl rfl ?_; intro y3 hw3; have K3 : Hid (Fm w [(v1.heap.size, cpC B, 26)] y3) := K2.out.put 0 _ _ _ _ rfl hw3.out)
    | (go_at_call 11; refine (hd _ (tb'.out.below K3.out.low)).mono ?_; rintro e v4 ⟨rfl, hb4⟩; have K4 : Hid _ := K3.out.below hb4)
    | (refine gen_world (v4.alloc (.cells (dvC zeroD) 37)) (Fm w [(v1.heap.size, cpC B, 26), (v4.heap.size, dvC zeroD, 37)]) (K4.out.new _ _) ?_; intro y5 K5)
    | (refine at_storeD v4.heap.size zeroD D (K5.out.get 1 _ _ _ rfl) _ _ rfl rfl rfl rfl ?_; intro y6 hw6; have K6 : Hid (Fm w [(v1.heap.size, cpC B, 26), (v4.heap.size, dvC D, 37)] y6) := K5.out.put 1 _ _ _ _ rfl hw6.out)
    | (refine at_buildP _ [(0, .int .u8 0), (1, .int .u8 248)] ldiP rfl rfl (by first | (simp [Act.eval]; done) | (go_simp; done)) (by kernel_rfl) _ rfl ?_)
    | (go_at_call 10; refine (hs _ (tb'.out.below K6.out.low)).mono ?_; rintro e v7 ⟨rfl, hb7⟩; have K7 : Hid _ := K6.out.below hb7)
    | (refine gen_world (v7.alloc (.cells (cpC zeroC) 26)) (Fm w [(v1.heap.size, cpC B, 26), (v4.heap.size, dvC D, 37), (v7.heap.size, cpC zeroC, 26)]) (K7.out.new _ _) ?_; intro y8 K8)
    | (refine at_storeC v7.heap.size zeroC L (K8.out.get 2 _ _ _ rfl) _ _ rfl rfl rfl rfl ?_; intro y9 hw9; have K9 : Hid (Fm w [(v1.heap.size, cpC B, 26), (v4.heap.size, dvC D, 37), (v7.heap.size, cpC L, 26)] y9) := K8.out.put 2 _ _ _ _ rfl hw9.out)
    | (go_at_call 9; refine (hk _ (tb'.out.below K9.out.low)).mono ?_; rintro e v10 ⟨rfl, hb10⟩; have K10 : Hid _ := K9.out.below hb10; have d23 := BoxC.f (K10.out.get 2 _ _ _ rfl) 23 _ r23.out; have d0 := BoxC.f (K10.out.get 2 _ _ _ rfl) 0 _ r0.out; have d25 := BoxC.f (K10.out.get 2 _ _ _ rfl) 25 _ r25.out)
    | (refine at_loadDg v4.heap.size D (K10.out.get 1 _ _ _ rfl) _ (by kernel_rfl) rfl rfl ?_)
    | (refine wantD _ [(0, .int .u8 0), (2, .bool true), (7, .bool true)] D (by kernel_rfl) rfl (by first | (simp [Act.eval]; done) | (go_simp; done)) hbD.out _ rfl ?_)
    | (refine at_eqD D D rfl _ _ _ (by kernel_rfl) rfl rfl rfl ?_)
    | (refine at_loadC v1.heap.size B (K9.out.get 0 _ _ _ rfl) _ rfl rfl rfl ?_)
    | (refine at_loadC v1.heap.size B (K6.out.get 0 _ _ _ rfl) _ rfl rfl rfl ?_)
    | (refine at_loadC v1.heap.size B (K3.out.get 0 _ _ _ rfl) _ rfl rfl rfl ?_))
  go_ret
  exact ⟨by first | rfl | simp, K10.out.low⟩
end Go.Proofs.YtbeeefekndcgnaaDoor
