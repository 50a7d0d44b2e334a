/- Frames of any number of boxes; the statements' own small functions: may, begun, awake. -/
import Derived.Test.YtbeeefekndcgnaaDoorLa
import Derived.Test.YtbeeefekndcgnaaDoorLm
namespace Go.Proofs.YtbeeefekndcgnaaDoor
open Go Go.RowKit
set_option linter.unusedVariables false
set_option maxHeartbeats 1000000
set_option maxRecDepth 20000

def bg (at_ : Int) : Cp := { zeroC with IE := true, Ph := 1 }.setR 0 at_
theorem startM_wf : startM.wf := ⟨fun _ => (by decide : (0 : Int) ≤ 0 ∧ (0 : Int) < 65536), (by decide : (0 : Int) ≤ 0 ∧ (0 : Int) < 256), (by decide : 0 < 256), (by decide : 0 < 256), (by decide : (0 : Int) ≤ 0 ∧ (0 : Int) < 256), (by decide : 0 < 256), (by decide : (0 : Int) ≤ 0 ∧ (0 : Int) < 256), (by decide : 5 < 256)⟩
theorem bg_wf (a : Int) (h : 0 ≤ a ∧ a < 65536) : (bg a).wf := Cp.wf.setR ⟨fun _ => (by decide : (0 : Int) ≤ 0 ∧ (0 : Int) < 65536), (by decide : (0 : Int) ≤ 0 ∧ (0 : Int) < 256), (by decide : 0 < 256), (by decide : 0 < 256), (by decide : (0 : Int) ≤ 0 ∧ (0 : Int) < 256), (by decide : 0 < 256), (by decide : (0 : Int) ≤ 0 ∧ (0 : Int) < 256), (by decide : 1 < 256)⟩ 0 a h
theorem step_start : cpC (stepM startM zeroP) = cpC { zeroC with IE := true, Ph := 1 } := by kernel_rfl
theorem lbegun (w : World) (tb : Tabs w) (a : Int) : Calls Tryd.prog 15 #[.int .u16 a] w fun e w' => e = .returned (.agg (cpC (bg a))) ∧ Below w.heap.size w w' := by
  have hs := fun v t => ystep v startM startM_wf zeroP zeroP_wf t
  rw [step_start] at hs
  have zz := zeroVC
  have tb' : Hid (Tabs w) := tb
  have hF : Hid (Fm w [(w.heap.size, cpC zeroC, 26)] (w.alloc (.cells (cpC zeroC) 26))) := (Fm.nil w).new _ _
  clear tb
  go_enter Tryd.func15, Tryd.ntmps15
  go_wp2_with (first
    | (refine gen_world (w.alloc (.cells (cpC zeroC) 26)) (Fm w [(w.heap.size, cpC zeroC, 26)]) hF.out ?_; intro y K)
    | (go_at_call 7; refine (ystart _).mono ?_; rintro e v1 ⟨rfl, hb1⟩; replace K : Hid _ := K.out.below hb1)
    | (refine at_buildP _ [(0, .int .u8 0)] zeroP rfl rfl (by first | (simp [Act.eval]; done) | (go_simp; done)) (by kernel_rfl) _ rfl ?_)
    | (go_at_call 10; refine (hs _ (tb'.out.below K.out.low)).mono ?_; rintro e v2 ⟨rfl, hb2⟩; replace K : Hid _ := K.out.below hb2)
    | (refine gen_world (v2.alloc (.cells (cpC zeroC) 26)) (Fm w [(w.heap.size, cpC zeroC, 26), (v2.heap.size, cpC zeroC, 26)]) (K.out.new _ _) ?_; intro y3 K3)
    | (refine at_storeC v2.heap.size zeroC { zeroC with IE := true, Ph := 1 } (K3.out.get 1 _ _ _ rfl) _ _ rfl rfl rfl rfl ?_; intro y4 hw4; have K4 : Hid (Fm w [(w.heap.size, cpC zeroC, 26), (v2.heap.size, cpC { zeroC with IE := true, Ph := 1 }, 26)] y4) := K3.out.put 1 _ _ _ _ rfl hw4.out; have d0 : y4.cell? ⟨v2.heap.size, 0, none⟩ = some (.int .u16 0) := BoxC.f (K4.out.get 1 _ _ _ rfl) 0 _ rfl; have f0 := frozen_heap (K4.out.get 1 _ _ _ rfl) 0; have K5 : Hid (Fm w [(w.heap.size, cpC zeroC, 26), (v2.heap.size, cpC (bg a), 26)] (y4.setCell ⟨v2.heap.size, 0, none⟩ (.int .u16 a))) := K4.out.setCell 1 _ _ _ _ rfl 0 _ rfl)
    | (refine at_loadC v2.heap.size _ (K5.out.get 1 _ _ _ rfl) _ rfl rfl rfl ?_)
    | (refine at_storeC w.heap.size zeroC _ (K5.out.get 0 _ _ _ rfl) _ _ rfl rfl rfl rfl ?_; intro w2 hw2))
  refine retC Tryd.results15 rfl hw2.out.1 rfl ⟨rfl, K5.out.low.trans (hw2.out.2.1 _ (Nat.le_refl _))⟩
end Go.Proofs.YtbeeefekndcgnaaDoor
