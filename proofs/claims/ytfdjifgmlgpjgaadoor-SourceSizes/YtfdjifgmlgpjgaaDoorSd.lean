/- Layer 13: the numbers, an item's size: the statements' own walks. -/
import Derived.Test.YtfdjifgmlgpjgaaDoorNs
namespace Go.Proofs.YtfdjifgmlgpjgaaDoor
open Go Go.RowKit
set_option linter.unusedVariables false
set_option maxHeartbeats 3000000
set_option maxRecDepth 20000

theorem numbers_walk (w : World) (T : Hid (Tw w)) : Calls Tryd.prog 3 #[] w fun e w' => e = .returned (.bool true) ∧ Below w.heap.size w w' := by
  have hA := awake_any w T
  go_enter Tryd.func3, Tryd.ntmps3
  go_wp2_with (go_at_call 9; refine hA.mono ?_; rintro e w1 ⟨rfl, h1⟩)
  go_ret
  exact ⟨rfl, h1.out⟩
theorem sizes_walk (w : World) (T : Hid (Tw w)) (r : Ri) : Calls Tryd.prog 5 #[.agg (i6 r)] w fun e w' => e = .returned (.bool true) ∧ Below w.heap.size w w' := by
  have hB : Hid (Fm w [(w.heap.size, i6 r, 35)] (w.alloc (.cells (i6 r) 35))) := Fm.one w _ _
  have hA := fun v hv => awake_any v (T.out.below hv)
  have hP := fun v hv => psize_any v r (T.out.below hv).t
  have hR := fun v => rsizeI_any v r
  generalize sizeI r = S at hP hR
  generalize sizeE r = E at hP hR
  go_enter Tryd.func5, Tryd.ntmps5
  go_wp2_with (first
    | ((with_reducible refine gen_world (w.alloc (.cells (i6 r) 35)) (Fm w [(w.heap.size, i6 r, 35)]) hB.out ?_); intro y K1)
    | (go_at_call 9; refine (hA y K1.out.low).mono ?_; rintro e y1 ⟨rfl, h1⟩; have K2 : Hid (Fm w [(w.heap.size, i6 r, 35)] y1) := K1.out.below h1.out; clear h1)
    | ((with_reducible refine at_load rt6 w.heap.size (i6 r) ?_ ?_ (.tmp 1) ?_ ?_ ?_ ?_); (first | exact K2.out.bx 0 _ _ _ rfl | exact K3.out.bx 0 _ _ _ rfl); rfl; rfl; rfl; rfl)
    | (go_at_call 16; refine (hP y1 K2.out.low).mono ?_; rintro e y2 ⟨rfl, h2⟩; have K3 : Hid (Fm w [(w.heap.size, i6 r, 35)] y2) := K2.out.below h2; clear h2)
    | (go_at_call 17; refine (hR y2).mono ?_; rintro e y3 ⟨rfl, h3⟩; have K4 : Hid (Fm w [(w.heap.size, i6 r, 35)] y3) := K3.out.below h3; clear h3))
  go_ret
  exact ⟨rfl, K4.out.low⟩
end Go.Proofs.YtfdjifgmlgpjgaaDoor
