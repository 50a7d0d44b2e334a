/- The digits' pictures: held against each other, the document's list, the statement's walk. -/
import Derived.Test.YtiplellfpagclaaDoorE0
namespace Go.Proofs.YtiplellfpagclaaDoor
open Go Go.RowKit
set_option linter.unusedVariables false
set_option maxHeartbeats 1000000
set_option maxRecDepth 20000

/-- Are two pictures the same? -/
def dgB (n m : Nat) : Bool := pic n 0 == pic m 0 && pic n 1 == pic m 1 && pic n 2 == pic m 2 && pic n 3 == pic m 3 && pic n 4 == pic m 4
theorem eqDg (n m : Nat) : Eqs Tryd.prog 22 (dgC n) (dgC m) (dgB n m) := ⟨by kernel_rfl, fun w => by
  unfold dgC dgB
  generalize pic n 0 = a0
  generalize pic n 1 = a1
  generalize pic n 2 = a2
  generalize pic n 3 = a3
  generalize pic n 4 = a4
  generalize pic m 0 = b0
  generalize pic m 1 = b1
  generalize pic m 2 = b2
  generalize pic m 3 = b3
  generalize pic m 4 = b4
  obtain ⟨inf, hi, _⟩ := Option.map_eq_some_iff.1 infoBy
  rw [run_equalIn_array w 9999 _ _ Tryd.underlying22 hi]
  have e1 : Tryd.prog.cellsOf 5 = 1 := by kernel_rfl
  have e2 : List.range 5 = [0, 1, 2, 3, 4] := by decide
  rw [e1, e2]
  unfold Op.eqItems
  simp only [Op.eqItems]
  go_simp
  (repeat' split) <;> simp_all <;> omega⟩
theorem dg_same (n : Nat) : dgB n n = true := by simp [dgB]
theorem dg_unlike (n m : Nat) (h : m < n) (hn : n < 16) : dgB n m = false := by
  have : ∀ (a b : Fin 16), b.val < a.val → dgB a.val b.val = false := by decide +kernel
  exact this ⟨n, hn⟩ ⟨m, by omega⟩ h
section
variable (w : World)
theorem rdig0 : Calls Tryd.prog 12 #[.int .u8 0] w fun e w' => e = .returned (.agg (dgC 0)) ∧ Below w.heap.size w w' := by
  have K0 : Hid (Fm w [(w.heap.size, #[.int .u8 0, .int .u8 0, .int .u8 0, .int .u8 0, .int .u8 0], 22)] (w.alloc (.cells #[.int .u8 0, .int .u8 0, .int .u8 0, .int .u8 0, .int .u8 0] 22))) := Fm.one w _ _
  have hz := zeroDg
  have hb : Hid (Tryd.prog.built 22 [(0, .int .u8 240), (1, .int .u8 144), (2, .int .u8 144), (3, .int .u8 144), (4, .int .u8 240)] = some #[.int .u8 240, .int .u8 144, .int .u8 144, .int .u8 144, .int .u8 240]) := by show _ = _; kernel_rfl
  go_enter Tryd.func12, Tryd.ntmps12
  go_wp2_with (first
    | ((with_reducible refine at_st rtDg w.heap.size #[.int .u8 0, .int .u8 0, .int .u8 0, .int .u8 0, .int .u8 0] #[.int .u8 240, .int .u8 144, .int .u8 144, .int .u8 144, .int .u8 240] ?_ ?_ ?_ ?_ (.tmp 2) (.tmp 6) ?_ ?_ ?_ ?_ ?_); exact K0.out.bx 0 _ _ _ rfl; rfl; rfl; kernel_rfl; rfl; rfl; rfl; rfl; intro y2 H2; have K2 : Hid (Fm w [(w.heap.size, #[.int .u8 240, .int .u8 144, .int .u8 144, .int .u8 144, .int .u8 240], 22)] y2) := K0.out.put 0 _ _ _ _ rfl H2.out)
    | ((with_reducible refine at_bu #[(0, .const (.int .u8 240)), (1, .const (.int .u8 144)), (2, .const (.int .u8 144)), (3, .const (.int .u8 144)), (4, .const (.int .u8 240))] [(0, .int .u8 240), (1, .int .u8 144), (2, .int .u8 144), (3, .int .u8 144), (4, .int .u8 240)] #[.int .u8 240, .int .u8 144, .int .u8 144, .int .u8 144, .int .u8 240] ?_ ?_ ?_ hb.out ?_); kernel_rfl; rfl; rfl))
  exact ret_row rtDg rfl rfl (K2.out.bx 0 _ _ _ rfl) rfl rfl ⟨by kernel_rfl, K2.out.low⟩
theorem rdig1 : Calls Tryd.prog 12 #[.int .u8 1] w fun e w' => e = .returned (.agg (dgC 1)) ∧ Below w.heap.size w w' := by
  have K0 : Hid (Fm w [(w.heap.size, #[.int .u8 0, .int .u8 0, .int .u8 0, .int .u8 0, .int .u8 0], 22)] (w.alloc (.cells #[.int .u8 0, .int .u8 0, .int .u8 0, .int .u8 0, .int .u8 0] 22))) := Fm.one w _ _
  have hz := zeroDg
  have hb : Hid (Tryd.prog.built 22 [(0, .int .u8 32), (1, .int .u8 96), (2, .int .u8 32), (3, .int .u8 32), (4, .int .u8 112)] = some #[.int .u8 32, .int .u8 96, .int .u8 32, .int .u8 32, .int .u8 112]) := by show _ = _; kernel_rfl
  go_enter Tryd.func12, Tryd.ntmps12
  go_wp2_with (first
    | ((with_reducible refine at_st rtDg w.heap.size #[.int .u8 0, .int .u8 0, .int .u8 0, .int .u8 0, .int .u8 0] #[.int .u8 32, .int .u8 96, .int .u8 32, .int .u8 32, .int .u8 112] ?_ ?_ ?_ ?_ (.tmp 2) (.tmp 9) ?_ ?_ ?_ ?_ ?_); exact K0.out.bx 0 _ _ _ rfl; rfl; rfl; kernel_rfl; rfl; rfl; rfl; rfl; intro y2 H2; have K2 : Hid (Fm w [(w.heap.size, #[.int .u8 32, .int .u8 96, .int .u8 32, .int .u8 32, .int .u8 112], 22)] y2) := K0.out.put 0 _ _ _ _ rfl H2.out)
    | ((with_reducible refine at_bu #[(0, .const (.int .u8 32)), (1, .const (.int .u8 96)), (2, .const (.int .u8 32)), (3, .const (.int .u8 32)), (4, .const (.int .u8 112))] [(0, .int .u8 32), (1, .int .u8 96), (2, .int .u8 32), (3, .int .u8 32), (4, .int .u8 112)] #[.int .u8 32, .int .u8 96, .int .u8 32, .int .u8 32, .int .u8 112] ?_ ?_ ?_ hb.out ?_); kernel_rfl; rfl; rfl))
  exact ret_row rtDg rfl rfl (K2.out.bx 0 _ _ _ rfl) rfl rfl ⟨by kernel_rfl, K2.out.low⟩
theorem rdig2 : Calls Tryd.prog 12 #[.int .u8 2] w fun e w' => e = .returned (.agg (dgC 2)) ∧ Below w.heap.size w w' := by
  have K0 : Hid (Fm w [(w.heap.size, #[.int .u8 0, .int .u8 0, .int .u8 0, .int .u8 0, .int .u8 0], 22)] (w.alloc (.cells #[.int .u8 0, .int .u8 0, .int .u8 0, .int .u8 0, .int .u8 0] 22))) := Fm.one w _ _
  have hz := zeroDg
  have hb : Hid (Tryd.prog.built 22 [(0, .int .u8 240), (1, .int .u8 16), (2, .int .u8 240), (3, .int .u8 128), (4, .int .u8 240)] = some #[.int .u8 240, .int .u8 16, .int .u8 240, .int .u8 128, .int .u8 240]) := by show _ = _; kernel_rfl
  go_enter Tryd.func12, Tryd.ntmps12
  go_wp2_with (first
    | ((with_reducible refine at_st rtDg w.heap.size #[.int .u8 0, .int .u8 0, .int .u8 0, .int .u8 0, .int .u8 0] #[.int .u8 240, .int .u8 16, .int .u8 240, .int .u8 128, .int .u8 240] ?_ ?_ ?_ ?_ (.tmp 2) (.tmp 12) ?_ ?_ ?_ ?_ ?_); exact K0.out.bx 0 _ _ _ rfl; rfl; rfl; kernel_rfl; rfl; rfl; rfl; rfl; intro y2 H2; have K2 : Hid (Fm w [(w.heap.size, #[.int .u8 240, .int .u8 16, .int .u8 240, .int .u8 128, .int .u8 240], 22)] y2) := K0.out.put 0 _ _ _ _ rfl H2.out)
    | ((with_reducible refine at_bu #[(0, .const (.int .u8 240)), (1, .const (.int .u8 16)), (2, .const (.int .u8 240)), (3, .const (.int .u8 128)), (4, .const (.int .u8 240))] [(0, .int .u8 240), (1, .int .u8 16), (2, .int .u8 240), (3, .int .u8 128), (4, .int .u8 240)] #[.int .u8 240, .int .u8 16, .int .u8 240, .int .u8 128, .int .u8 240] ?_ ?_ ?_ hb.out ?_); kernel_rfl; rfl; rfl))
  exact ret_row rtDg rfl rfl (K2.out.bx 0 _ _ _ rfl) rfl rfl ⟨by kernel_rfl, K2.out.low⟩
theorem rdig3 : Calls Tryd.prog 12 #[.int .u8 3] w fun e w' => e = .returned (.agg (dgC 3)) ∧ Below w.heap.size w w' := by
  have K0 : Hid (Fm w [(w.heap.size, #[.int .u8 0, .int .u8 0, .int .u8 0, .int .u8 0, .int .u8 0], 22)] (w.alloc (.cells #[.int .u8 0, .int .u8 0, .int .u8 0, .int .u8 0, .int .u8 0] 22))) := Fm.one w _ _
  have hz := zeroDg
  have hb : Hid (Tryd.prog.built 22 [(0, .int .u8 240), (1, .int .u8 16), (2, .int .u8 240), (3, .int .u8 16), (4, .int .u8 240)] = some #[.int .u8 240, .int .u8 16, .int .u8 240, .int .u8 16, .int .u8 240]) := by show _ = _; kernel_rfl
  go_enter Tryd.func12, Tryd.ntmps12
  go_wp2_with (first
    | ((with_reducible refine at_st rtDg w.heap.size #[.int .u8 0, .int .u8 0, .int .u8 0, .int .u8 0, .int .u8 0] #[.int .u8 240, .int .u8 16, .int .u8 240, .int .u8 16, .int .u8 240] ?_ ?_ ?_ ?_ (.tmp 2) (.tmp 15) ?_ ?_ ?_ ?_ ?_); exact K0.out.bx 0 _ _ _ rfl; rfl; rfl; kernel_rfl; rfl; rfl; rfl; rfl; intro y2 H2; have K2 : Hid (Fm w [(w.heap.size, #[.int .u8 240, .int .u8 16, .int .u8 240, .int .u8 16, .int .u8 240], 22)] y2) := K0.out.put 0 _ _ _ _ rfl H2.out)
    | ((with_reducible refine at_bu #[(0, .const (.int .u8 240)), (1, .const (.int .u8 16)), (2, .const (.int .u8 240)), (3, .const (.int .u8 16)), (4, .const (.int .u8 240))] [(0, .int .u8 240), (1, .int .u8 16), (2, .int .u8 240), (3, .int .u8 16), (4, .int .u8 240)] #[.int .u8 240, .int .u8 16, .int .u8 240, .int .u8 16, .int .u8 240] ?_ ?_ ?_ hb.out ?_); kernel_rfl; rfl; rfl))
  exact ret_row rtDg rfl rfl (K2.out.bx 0 _ _ _ rfl) rfl rfl ⟨by kernel_rfl, K2.out.low⟩
theorem rdig4 : Calls Tryd.prog 12 #[.int .u8 4] w fun e w' => e = .returned (.agg (dgC 4)) ∧ Below w.heap.size w w' := by
  have K0 : Hid (Fm w [(w.heap.size, #[.int .u8 0, .int .u8 0, .int .u8 0, .int .u8 0, .int .u8 0], 22)] (w.alloc (.cells #[.int .u8 0, .int .u8 0, .int .u8 0, .int .u8 0, .int .u8 0] 22))) := Fm.one w _ _
  have hz := zeroDg
  have hb : Hid (Tryd.prog.built 22 [(0, .int .u8 144), (1, .int .u8 144), (2, .int .u8 240), (3, .int .u8 16), (4, .int .u8 16)] = some #[.int .u8 144, .int .u8 144, .int .u8 240, .int .u8 16, .int .u8 16]) := by show _ = _; kernel_rfl
  go_enter Tryd.func12, Tryd.ntmps12
  go_wp2_with (first
    | ((with_reducible refine at_st rtDg w.heap.size #[.int .u8 0, .int .u8 0, .int .u8 0, .int .u8 0, .int .u8 0] #[.int .u8 144, .int .u8 144, .int .u8 240, .int .u8 16, .int .u8 16] ?_ ?_ ?_ ?_ (.tmp 2) (.tmp 18) ?_ ?_ ?_ ?_ ?_); exact K0.out.bx 0 _ _ _ rfl; rfl; rfl; kernel_rfl; rfl; rfl; rfl; rfl; intro y2 H2; have K2 : Hid (Fm w [(w.heap.size, #[.int .u8 144, .int .u8 144, .int .u8 240, .int .u8 16, .int .u8 16], 22)] y2) := K0.out.put 0 _ _ _ _ rfl H2.out)
    | ((with_reducible refine at_bu #[(0, .const (.int .u8 144)), (1, .const (.int .u8 144)), (2, .const (.int .u8 240)), (3, .const (.int .u8 16)), (4, .const (.int .u8 16))] [(0, .int .u8 144), (1, .int .u8 144), (2, .int .u8 240), (3, .int .u8 16), (4, .int .u8 16)] #[.int .u8 144, .int .u8 144, .int .u8 240, .int .u8 16, .int .u8 16] ?_ ?_ ?_ hb.out ?_); kernel_rfl; rfl; rfl))
  exact ret_row rtDg rfl rfl (K2.out.bx 0 _ _ _ rfl) rfl rfl ⟨by kernel_rfl, K2.out.low⟩
theorem rdig5 : Calls Tryd.prog 12 #[.int .u8 5] w fun e w' => e = .returned (.agg (dgC 5)) ∧ Below w.heap.size w w' := by
  have K0 : Hid (Fm w [(w.heap.size, #[.int .u8 0, .int .u8 0, .int .u8 0, .int .u8 0, .int .u8 0], 22)] (w.alloc (.cells #[.int .u8 0, .int .u8 0, .int .u8 0, .int .u8 0, .int .u8 0] 22))) := Fm.one w _ _
  have hz := zeroDg
  have hb : Hid (Tryd.prog.built 22 [(0, .int .u8 240), (1, .int .u8 128), (2, .int .u8 240), (3, .int .u8 16), (4, .int .u8 240)] = some #[.int .u8 240, .int .u8 128, .int .u8 240, .int .u8 16, .int .u8 240]) := by show _ = _; kernel_rfl
  go_enter Tryd.func12, Tryd.ntmps12
  go_wp2_with (first
    | ((with_reducible refine at_st rtDg w.heap.size #[.int .u8 0, .int .u8 0, .int .u8 0, .int .u8 0, .int .u8 0] #[.int .u8 240, .int .u8 128, .int .u8 240, .int .u8 16, .int .u8 240] ?_ ?_ ?_ ?_ (.tmp 2) (.tmp 21) ?_ ?_ ?_ ?_ ?_); exact K0.out.bx 0 _ _ _ rfl; rfl; rfl; kernel_rfl; rfl; rfl; rfl; rfl; intro y2 H2; have K2 : Hid (Fm w [(w.heap.size, #[.int .u8 240, .int .u8 128, .int .u8 240, .int .u8 16, .int .u8 240], 22)] y2) := K0.out.put 0 _ _ _ _ rfl H2.out)
    | ((with_reducible refine at_bu #[(0, .const (.int .u8 240)), (1, .const (.int .u8 128)), (2, .const (.int .u8 240)), (3, .const (.int .u8 16)), (4, .const (.int .u8 240))] [(0, .int .u8 240), (1, .int .u8 128), (2, .int .u8 240), (3, .int .u8 16), (4, .int .u8 240)] #[.int .u8 240, .int .u8 128, .int .u8 240, .int .u8 16, .int .u8 240] ?_ ?_ ?_ hb.out ?_); kernel_rfl; rfl; rfl))
  exact ret_row rtDg rfl rfl (K2.out.bx 0 _ _ _ rfl) rfl rfl ⟨by kernel_rfl, K2.out.low⟩
theorem rdig6 : Calls Tryd.prog 12 #[.int .u8 6] w fun e w' => e = .returned (.agg (dgC 6)) ∧ Below w.heap.size w w' := by
  have K0 : Hid (Fm w [(w.heap.size, #[.int .u8 0, .int .u8 0, .int .u8 0, .int .u8 0, .int .u8 0], 22)] (w.alloc (.cells #[.int .u8 0, .int .u8 0, .int .u8 0, .int .u8 0, .int .u8 0] 22))) := Fm.one w _ _
  have hz := zeroDg
  have hb : Hid (Tryd.prog.built 22 [(0, .int .u8 240), (1, .int .u8 128), (2, .int .u8 240), (3, .int .u8 144), (4, .int .u8 240)] = some #[.int .u8 240, .int .u8 128, .int .u8 240, .int .u8 144, .int .u8 240]) := by show _ = _; kernel_rfl
  go_enter Tryd.func12, Tryd.ntmps12
  go_wp2_with (first
    | ((with_reducible refine at_st rtDg w.heap.size #[.int .u8 0, .int .u8 0, .int .u8 0, .int .u8 0, .int .u8 0] #[.int .u8 240, .int .u8 128, .int .u8 240, .int .u8 144, .int .u8 240] ?_ ?_ ?_ ?_ (.tmp 2) (.tmp 24) ?_ ?_ ?_ ?_ ?_); exact K0.out.bx 0 _ _ _ rfl; rfl; rfl; kernel_rfl; rfl; rfl; rfl; rfl; intro y2 H2; have K2 : Hid (Fm w [(w.heap.size, #[.int .u8 240, .int .u8 128, .int .u8 240, .int .u8 144, .int .u8 240], 22)] y2) := K0.out.put 0 _ _ _ _ rfl H2.out)
    | ((with_reducible refine at_bu #[(0, .const (.int .u8 240)), (1, .const (.int .u8 128)), (2, .const (.int .u8 240)), (3, .const (.int .u8 144)), (4, .const (.int .u8 240))] [(0, .int .u8 240), (1, .int .u8 128), (2, .int .u8 240), (3, .int .u8 144), (4, .int .u8 240)] #[.int .u8 240, .int .u8 128, .int .u8 240, .int .u8 144, .int .u8 240] ?_ ?_ ?_ hb.out ?_); kernel_rfl; rfl; rfl))
  exact ret_row rtDg rfl rfl (K2.out.bx 0 _ _ _ rfl) rfl rfl ⟨by kernel_rfl, K2.out.low⟩
theorem rdig7 : Calls Tryd.prog 12 #[.int .u8 7] w fun e w' => e = .returned (.agg (dgC 7)) ∧ Below w.heap.size w w' := by
  have K0 : Hid (Fm w [(w.heap.size, #[.int .u8 0, .int .u8 0, .int .u8 0, .int .u8 0, .int .u8 0], 22)] (w.alloc (.cells #[.int .u8 0, .int .u8 0, .int .u8 0, .int .u8 0, .int .u8 0] 22))) := Fm.one w _ _
  have hz := zeroDg
  have hb : Hid (Tryd.prog.built 22 [(0, .int .u8 240), (1, .int .u8 16), (2, .int .u8 16), (3, .int .u8 16), (4, .int .u8 16)] = some #[.int .u8 240, .int .u8 16, .int .u8 16, .int .u8 16, .int .u8 16]) := by show _ = _; kernel_rfl
  go_enter Tryd.func12, Tryd.ntmps12
  go_wp2_with (first
    | ((with_reducible refine at_st rtDg w.heap.size #[.int .u8 0, .int .u8 0, .int .u8 0, .int .u8 0, .int .u8 0] #[.int .u8 240, .int .u8 16, .int .u8 16, .int .u8 16, .int .u8 16] ?_ ?_ ?_ ?_ (.tmp 2) (.tmp 27) ?_ ?_ ?_ ?_ ?_); exact K0.out.bx 0 _ _ _ rfl; rfl; rfl; kernel_rfl; rfl; rfl; rfl; rfl; intro y2 H2; have K2 : Hid (Fm w [(w.heap.size, #[.int .u8 240, .int .u8 16, .int .u8 16, .int .u8 16, .int .u8 16], 22)] y2) := K0.out.put 0 _ _ _ _ rfl H2.out)
    | ((with_reducible refine at_bu #[(0, .const (.int .u8 240)), (1, .const (.int .u8 16)), (2, .const (.int .u8 16)), (3, .const (.int .u8 16)), (4, .const (.int .u8 16))] [(0, .int .u8 240), (1, .int .u8 16), (2, .int .u8 16), (3, .int .u8 16), (4, .int .u8 16)] #[.int .u8 240, .int .u8 16, .int .u8 16, .int .u8 16, .int .u8 16] ?_ ?_ ?_ hb.out ?_); kernel_rfl; rfl; rfl))
  exact ret_row rtDg rfl rfl (K2.out.bx 0 _ _ _ rfl) rfl rfl ⟨by kernel_rfl, K2.out.low⟩
theorem rdig8 : Calls Tryd.prog 12 #[.int .u8 8] w fun e w' => e = .returned (.agg (dgC 8)) ∧ Below w.heap.size w w' := by
  have K0 : Hid (Fm w [(w.heap.size, #[.int .u8 0, .int .u8 0, .int .u8 0, .int .u8 0, .int .u8 0], 22)] (w.alloc (.cells #[.int .u8 0, .int .u8 0, .int .u8 0, .int .u8 0, .int .u8 0] 22))) := Fm.one w _ _
  have hz := zeroDg
  have hb : Hid (Tryd.prog.built 22 [(0, .int .u8 240), (1, .int .u8 144), (2, .int .u8 240), (3, .int .u8 144), (4, .int .u8 240)] = some #[.int .u8 240, .int .u8 144, .int .u8 240, .int .u8 144, .int .u8 240]) := by show _ = _; kernel_rfl
  go_enter Tryd.func12, Tryd.ntmps12
  go_wp2_with (first
    | ((with_reducible refine at_st rtDg w.heap.size #[.int .u8 0, .int .u8 0, .int .u8 0, .int .u8 0, .int .u8 0] #[.int .u8 240, .int .u8 144, .int .u8 240, .int .u8 144, .int .u8 240] ?_ ?_ ?_ ?_ (.tmp 2) (.tmp 30) ?_ ?_ ?_ ?_ ?_); exact K0.out.bx 0 _ _ _ rfl; rfl; rfl; kernel_rfl; rfl; rfl; rfl; rfl; intro y2 H2; have K2 : Hid (Fm w [(w.heap.size, #[.int .u8 240, .int .u8 144, .int .u8 240, .int .u8 144, .int .u8 240], 22)] y2) := K0.out.put 0 _ _ _ _ rfl H2.out)
    | ((with_reducible refine at_bu #[(0, .const (.int .u8 240)), (1, .const (.int .u8 144)), (2, .const (.int .u8 240)), (3, .const (.int .u8 144)), (4, .const (.int .u8 240))] [(0, .int .u8 240), (1, .int .u8 144), (2, .int .u8 240), (3, .int .u8 144), (4, .int .u8 240)] #[.int .u8 240, .int .u8 144, .int .u8 240, .int .u8 144, .int .u8 240] ?_ ?_ ?_ hb.out ?_); kernel_rfl; rfl; rfl))
  exact ret_row rtDg rfl rfl (K2.out.bx 0 _ _ _ rfl) rfl rfl ⟨by kernel_rfl, K2.out.low⟩
theorem rdig9 : Calls Tryd.prog 12 #[.int .u8 9] w fun e w' => e = .returned (.agg (dgC 9)) ∧ Below w.heap.size w w' := by
  have K0 : Hid (Fm w [(w.heap.size, #[.int .u8 0, .int .u8 0, .int .u8 0, .int .u8 0, .int .u8 0], 22)] (w.alloc (.cells #[.int .u8 0, .int .u8 0, .int .u8 0, .int .u8 0, .int .u8 0] 22))) := Fm.one w _ _
  have hz := zeroDg
  have hb : Hid (Tryd.prog.built 22 [(0, .int .u8 240), (1, .int .u8 144), (2, .int .u8 240), (3, .int .u8 16), (4, .int .u8 240)] = some #[.int .u8 240, .int .u8 144, .int .u8 240, .int .u8 16, .int .u8 240]) := by show _ = _; kernel_rfl
  go_enter Tryd.func12, Tryd.ntmps12
  go_wp2_with (first
    | ((with_reducible refine at_st rtDg w.heap.size #[.int .u8 0, .int .u8 0, .int .u8 0, .int .u8 0, .int .u8 0] #[.int .u8 240, .int .u8 144, .int .u8 240, .int .u8 16, .int .u8 240] ?_ ?_ ?_ ?_ (.tmp 2) (.tmp 33) ?_ ?_ ?_ ?_ ?_); exact K0.out.bx 0 _ _ _ rfl; rfl; rfl; kernel_rfl; rfl; rfl; rfl; rfl; intro y2 H2; have K2 : Hid (Fm w [(w.heap.size, #[.int .u8 240, .int .u8 144, .int .u8 240, .int .u8 16, .int .u8 240], 22)] y2) := K0.out.put 0 _ _ _ _ rfl H2.out)
    | ((with_reducible refine at_bu #[(0, .const (.int .u8 240)), (1, .const (.int .u8 144)), (2, .const (.int .u8 240)), (3, .const (.int .u8 16)), (4, .const (.int .u8 240))] [(0, .int .u8 240), (1, .int .u8 144), (2, .int .u8 240), (3, .int .u8 16), (4, .int .u8 240)] #[.int .u8 240, .int .u8 144, .int .u8 240, .int .u8 16, .int .u8 240] ?_ ?_ ?_ hb.out ?_); kernel_rfl; rfl; rfl))
  exact ret_row rtDg rfl rfl (K2.out.bx 0 _ _ _ rfl) rfl rfl ⟨by kernel_rfl, K2.out.low⟩
theorem rdig10 : Calls Tryd.prog 12 #[.int .u8 10] w fun e w' => e = .returned (.agg (dgC 10)) ∧ Below w.heap.size w w' := by
  have K0 : Hid (Fm w [(w.heap.size, #[.int .u8 0, .int .u8 0, .int .u8 0, .int .u8 0, .int .u8 0], 22)] (w.alloc (.cells #[.int .u8 0, .int .u8 0, .int .u8 0, .int .u8 0, .int .u8 0] 22))) := Fm.one w _ _
  have hz := zeroDg
  have hb : Hid (Tryd.prog.built 22 [(0, .int .u8 240), (1, .int .u8 144), (2, .int .u8 240), (3, .int .u8 144), (4, .int .u8 144)] = some #[.int .u8 240, .int .u8 144, .int .u8 240, .int .u8 144, .int .u8 144]) := by show _ = _; kernel_rfl
  go_enter Tryd.func12, Tryd.ntmps12
  go_wp2_with (first
    | ((with_reducible refine at_st rtDg w.heap.size #[.int .u8 0, .int .u8 0, .int .u8 0, .int .u8 0, .int .u8 0] #[.int .u8 240, .int .u8 144, .int .u8 240, .int .u8 144, .int .u8 144] ?_ ?_ ?_ ?_ (.tmp 2) (.tmp 36) ?_ ?_ ?_ ?_ ?_); exact K0.out.bx 0 _ _ _ rfl; rfl; rfl; kernel_rfl; rfl; rfl; rfl; rfl; intro y2 H2; have K2 : Hid (Fm w [(w.heap.size, #[.int .u8 240, .int .u8 144, .int .u8 240, .int .u8 144, .int .u8 144], 22)] y2) := K0.out.put 0 _ _ _ _ rfl H2.out)
    | ((with_reducible refine at_bu #[(0, .const (.int .u8 240)), (1, .const (.int .u8 144)), (2, .const (.int .u8 240)), (3, .const (.int .u8 144)), (4, .const (.int .u8 144))] [(0, .int .u8 240), (1, .int .u8 144), (2, .int .u8 240), (3, .int .u8 144), (4, .int .u8 144)] #[.int .u8 240, .int .u8 144, .int .u8 240, .int .u8 144, .int .u8 144] ?_ ?_ ?_ hb.out ?_); kernel_rfl; rfl; rfl))
  exact ret_row rtDg rfl rfl (K2.out.bx 0 _ _ _ rfl) rfl rfl ⟨by kernel_rfl, K2.out.low⟩
theorem rdig11 : Calls Tryd.prog 12 #[.int .u8 11] w fun e w' => e = .returned (.agg (dgC 11)) ∧ Below w.heap.size w w' := by
  have K0 : Hid (Fm w [(w.heap.size, #[.int .u8 0, .int .u8 0, .int .u8 0, .int .u8 0, .int .u8 0], 22)] (w.alloc (.cells #[.int .u8 0, .int .u8 0, .int .u8 0, .int .u8 0, .int .u8 0] 22))) := Fm.one w _ _
  have hz := zeroDg
  have hb : Hid (Tryd.prog.built 22 [(0, .int .u8 224), (1, .int .u8 144), (2, .int .u8 224), (3, .int .u8 144), (4, .int .u8 224)] = some #[.int .u8 224, .int .u8 144, .int .u8 224, .int .u8 144, .int .u8 224]) := by show _ = _; kernel_rfl
  go_enter Tryd.func12, Tryd.ntmps12
  go_wp2_with (first
    | ((with_reducible refine at_st rtDg w.heap.size #[.int .u8 0, .int .u8 0, .int .u8 0, .int .u8 0, .int .u8 0] #[.int .u8 224, .int .u8 144, .int .u8 224, .int .u8 144, .int .u8 224] ?_ ?_ ?_ ?_ (.tmp 2) (.tmp 39) ?_ ?_ ?_ ?_ ?_); exact K0.out.bx 0 _ _ _ rfl; rfl; rfl; kernel_rfl; rfl; rfl; rfl; rfl; intro y2 H2; have K2 : Hid (Fm w [(w.heap.size, #[.int .u8 224, .int .u8 144, .int .u8 224, .int .u8 144, .int .u8 224], 22)] y2) := K0.out.put 0 _ _ _ _ rfl H2.out)
    | ((with_reducible refine at_bu #[(0, .const (.int .u8 224)), (1, .const (.int .u8 144)), (2, .const (.int .u8 224)), (3, .const (.int .u8 144)), (4, .const (.int .u8 224))] [(0, .int .u8 224), (1, .int .u8 144), (2, .int .u8 224), (3, .int .u8 144), (4, .int .u8 224)] #[.int .u8 224, .int .u8 144, .int .u8 224, .int .u8 144, .int .u8 224] ?_ ?_ ?_ hb.out ?_); kernel_rfl; rfl; rfl))
  exact ret_row rtDg rfl rfl (K2.out.bx 0 _ _ _ rfl) rfl rfl ⟨by kernel_rfl, K2.out.low⟩
theorem rdig12 : Calls Tryd.prog 12 #[.int .u8 12] w fun e w' => e = .returned (.agg (dgC 12)) ∧ Below w.heap.size w w' := by
  have K0 : Hid (Fm w [(w.heap.size, #[.int .u8 0, .int .u8 0, .int .u8 0, .int .u8 0, .int .u8 0], 22)] (w.alloc (.cells #[.int .u8 0, .int .u8 0, .int .u8 0, .int .u8 0, .int .u8 0] 22))) := Fm.one w _ _
  have hz := zeroDg
  have hb : Hid (Tryd.prog.built 22 [(0, .int .u8 240), (1, .int .u8 128), (2, .int .u8 128), (3, .int .u8 128), (4, .int .u8 240)] = some #[.int .u8 240, .int .u8 128, .int .u8 128, .int .u8 128, .int .u8 240]) := by show _ = _; kernel_rfl
  go_enter Tryd.func12, Tryd.ntmps12
  go_wp2_with (first
    | ((with_reducible refine at_st rtDg w.heap.size #[.int .u8 0, .int .u8 0, .int .u8 0, .int .u8 0, .int .u8 0] #[.int .u8 240, .int .u8 128, .int .u8 128, .int .u8 128, .int .u8 240] ?_ ?_ ?_ ?_ (.tmp 2) (.tmp 42) ?_ ?_ ?_ ?_ ?_); exact K0.out.bx 0 _ _ _ rfl; rfl; rfl; kernel_rfl; rfl; rfl; rfl; rfl; intro y2 H2; have K2 : Hid (Fm w [(w.heap.size, #[.int .u8 240, .int .u8 128, .int .u8 128, .int .u8 128, .int .u8 240], 22)] y2) := K0.out.put 0 _ _ _ _ rfl H2.out)
    | ((with_reducible refine at_bu #[(0, .const (.int .u8 240)), (1, .const (.int .u8 128)), (2, .const (.int .u8 128)), (3, .const (.int .u8 128)), (4, .const (.int .u8 240))] [(0, .int .u8 240), (1, .int .u8 128), (2, .int .u8 128), (3, .int .u8 128), (4, .int .u8 240)] #[.int .u8 240, .int .u8 128, .int .u8 128, .int .u8 128, .int .u8 240] ?_ ?_ ?_ hb.out ?_); kernel_rfl; rfl; rfl))
  exact ret_row rtDg rfl rfl (K2.out.bx 0 _ _ _ rfl) rfl rfl ⟨by kernel_rfl, K2.out.low⟩
theorem rdig13 : Calls Tryd.prog 12 #[.int .u8 13] w fun e w' => e = .returned (.agg (dgC 13)) ∧ Below w.heap.size w w' := by
  have K0 : Hid (Fm w [(w.heap.size, #[.int .u8 0, .int .u8 0, .int .u8 0, .int .u8 0, .int .u8 0], 22)] (w.alloc (.cells #[.int .u8 0, .int .u8 0, .int .u8 0, .int .u8 0, .int .u8 0] 22))) := Fm.one w _ _
  have hz := zeroDg
  have hb : Hid (Tryd.prog.built 22 [(0, .int .u8 224), (1, .int .u8 144), (2, .int .u8 144), (3, .int .u8 144), (4, .int .u8 224)] = some #[.int .u8 224, .int .u8 144, .int .u8 144, .int .u8 144, .int .u8 224]) := by show _ = _; kernel_rfl
  go_enter Tryd.func12, Tryd.ntmps12
  go_wp2_with (first
    | ((with_reducible refine at_st rtDg w.heap.size #[.int .u8 0, .int .u8 0, .int .u8 0, .int .u8 0, .int .u8 0] #[.int .u8 224, .int .u8 144, .int .u8 144, .int .u8 144, .int .u8 224] ?_ ?_ ?_ ?_ (.tmp 2) (.tmp 45) ?_ ?_ ?_ ?_ ?_); exact K0.out.bx 0 _ _ _ rfl; rfl; rfl; kernel_rfl; rfl; rfl; rfl; rfl; intro y2 H2; have K2 : Hid (Fm w [(w.heap.size, #[.int .u8 224, .int .u8 144, .int .u8 144, .int .u8 144, .int .u8 224], 22)] y2) := K0.out.put 0 _ _ _ _ rfl H2.out)
    | ((with_reducible refine at_bu #[(0, .const (.int .u8 224)), (1, .const (.int .u8 144)), (2, .const (.int .u8 144)), (3, .const (.int .u8 144)), (4, .const (.int .u8 224))] [(0, .int .u8 224), (1, .int .u8 144), (2, .int .u8 144), (3, .int .u8 144), (4, .int .u8 224)] #[.int .u8 224, .int .u8 144, .int .u8 144, .int .u8 144, .int .u8 224] ?_ ?_ ?_ hb.out ?_); kernel_rfl; rfl; rfl))
  exact ret_row rtDg rfl rfl (K2.out.bx 0 _ _ _ rfl) rfl rfl ⟨by kernel_rfl, K2.out.low⟩
theorem rdig14 : Calls Tryd.prog 12 #[.int .u8 14] w fun e w' => e = .returned (.agg (dgC 14)) ∧ Below w.heap.size w w' := by
  have K0 : Hid (Fm w [(w.heap.size, #[.int .u8 0, .int .u8 0, .int .u8 0, .int .u8 0, .int .u8 0], 22)] (w.alloc (.cells #[.int .u8 0, .int .u8 0, .int .u8 0, .int .u8 0, .int .u8 0] 22))) := Fm.one w _ _
  have hz := zeroDg
  have hb : Hid (Tryd.prog.built 22 [(0, .int .u8 240), (1, .int .u8 128), (2, .int .u8 240), (3, .int .u8 128), (4, .int .u8 240)] = some #[.int .u8 240, .int .u8 128, .int .u8 240, .int .u8 128, .int .u8 240]) := by show _ = _; kernel_rfl
  go_enter Tryd.func12, Tryd.ntmps12
  go_wp2_with (first
    | ((with_reducible refine at_st rtDg w.heap.size #[.int .u8 0, .int .u8 0, .int .u8 0, .int .u8 0, .int .u8 0] #[.int .u8 240, .int .u8 128, .int .u8 240, .int .u8 128, .int .u8 240] ?_ ?_ ?_ ?_ (.tmp 2) (.tmp 48) ?_ ?_ ?_ ?_ ?_); exact K0.out.bx 0 _ _ _ rfl; rfl; rfl; kernel_rfl; rfl; rfl; rfl; rfl; intro y2 H2; have K2 : Hid (Fm w [(w.heap.size, #[.int .u8 240, .int .u8 128, .int .u8 240, .int .u8 128, .int .u8 240], 22)] y2) := K0.out.put 0 _ _ _ _ rfl H2.out)
    | ((with_reducible refine at_bu #[(0, .const (.int .u8 240)), (1, .const (.int .u8 128)), (2, .const (.int .u8 240)), (3, .const (.int .u8 128)), (4, .const (.int .u8 240))] [(0, .int .u8 240), (1, .int .u8 128), (2, .int .u8 240), (3, .int .u8 128), (4, .int .u8 240)] #[.int .u8 240, .int .u8 128, .int .u8 240, .int .u8 128, .int .u8 240] ?_ ?_ ?_ hb.out ?_); kernel_rfl; rfl; rfl))
  exact ret_row rtDg rfl rfl (K2.out.bx 0 _ _ _ rfl) rfl rfl ⟨by kernel_rfl, K2.out.low⟩
theorem rdig15 : Calls Tryd.prog 12 #[.int .u8 15] w fun e w' => e = .returned (.agg (dgC 15)) ∧ Below w.heap.size w w' := by
  have K0 : Hid (Fm w [(w.heap.size, #[.int .u8 0, .int .u8 0, .int .u8 0, .int .u8 0, .int .u8 0], 22)] (w.alloc (.cells #[.int .u8 0, .int .u8 0, .int .u8 0, .int .u8 0, .int .u8 0] 22))) := Fm.one w _ _
  have hz := zeroDg
  have hb : Hid (Tryd.prog.built 22 [(0, .int .u8 240), (1, .int .u8 128), (2, .int .u8 240), (3, .int .u8 128), (4, .int .u8 128)] = some #[.int .u8 240, .int .u8 128, .int .u8 240, .int .u8 128, .int .u8 128]) := by show _ = _; kernel_rfl
  go_enter Tryd.func12, Tryd.ntmps12
  go_wp2_with (first
    | ((with_reducible refine at_st rtDg w.heap.size #[.int .u8 0, .int .u8 0, .int .u8 0, .int .u8 0, .int .u8 0] #[.int .u8 240, .int .u8 128, .int .u8 240, .int .u8 128, .int .u8 128] ?_ ?_ ?_ ?_ (.tmp 2) (.tmp 51) ?_ ?_ ?_ ?_ ?_); exact K0.out.bx 0 _ _ _ rfl; rfl; rfl; kernel_rfl; rfl; rfl; rfl; rfl; intro y2 H2; have K2 : Hid (Fm w [(w.heap.size, #[.int .u8 240, .int .u8 128, .int .u8 240, .int .u8 128, .int .u8 128], 22)] y2) := K0.out.put 0 _ _ _ _ rfl H2.out)
    | ((with_reducible refine at_bu #[(0, .const (.int .u8 240)), (1, .const (.int .u8 128)), (2, .const (.int .u8 240)), (3, .const (.int .u8 128)), (4, .const (.int .u8 128))] [(0, .int .u8 240), (1, .int .u8 128), (2, .int .u8 240), (3, .int .u8 128), (4, .int .u8 128)] #[.int .u8 240, .int .u8 128, .int .u8 240, .int .u8 128, .int .u8 128] ?_ ?_ ?_ hb.out ?_); kernel_rfl; rfl; rfl))
  exact ret_row rtDg rfl rfl (K2.out.bx 0 _ _ _ rfl) rfl rfl ⟨by kernel_rfl, K2.out.low⟩
end
theorem rdig_big (w : World) (n : Nat) (h : 16 ≤ n) (hn : n < 256) : Calls Tryd.prog 12 #[.int .u8 (n : Int)] w fun e w' => e = .returned (.agg (dgC n)) ∧ Below w.heap.size w w' := by
  rw [dg_big n h]
  have n0 : ((n : Int) == 0) = false := by simp; omega
  have n1 : ((n : Int) == 1) = false := by simp; omega
  have n2 : ((n : Int) == 2) = false := by simp; omega
  have n3 : ((n : Int) == 3) = false := by simp; omega
  have n4 : ((n : Int) == 4) = false := by simp; omega
  have n5 : ((n : Int) == 5) = false := by simp; omega
  have n6 : ((n : Int) == 6) = false := by simp; omega
  have n7 : ((n : Int) == 7) = false := by simp; omega
  have n8 : ((n : Int) == 8) = false := by simp; omega
  have n9 : ((n : Int) == 9) = false := by simp; omega
  have n10 : ((n : Int) == 10) = false := by simp; omega
  have n11 : ((n : Int) == 11) = false := by simp; omega
  have n12 : ((n : Int) == 12) = false := by simp; omega
  have n13 : ((n : Int) == 13) = false := by simp; omega
  have n14 : ((n : Int) == 14) = false := by simp; omega
  have n15 : ((n : Int) == 15) = false := by simp; omega
  have K0 : Hid (Fm w [(w.heap.size, #[.int .u8 0, .int .u8 0, .int .u8 0, .int .u8 0, .int .u8 0], 22)] (w.alloc (.cells #[.int .u8 0, .int .u8 0, .int .u8 0, .int .u8 0, .int .u8 0] 22))) := Fm.one w _ _
  have hz := zeroDg
  have hb : Hid (Tryd.prog.built 22 [] = some #[.int .u8 0, .int .u8 0, .int .u8 0, .int .u8 0, .int .u8 0]) := by show _ = _; kernel_rfl
  clear h hn
  go_enter Tryd.func12, Tryd.ntmps12
  go_wp2_with (first
    | ((with_reducible refine at_st rtDg w.heap.size #[.int .u8 0, .int .u8 0, .int .u8 0, .int .u8 0, .int .u8 0] #[.int .u8 0, .int .u8 0, .int .u8 0, .int .u8 0, .int .u8 0] ?_ ?_ ?_ ?_ (.tmp 2) (.tmp 52) ?_ ?_ ?_ ?_ ?_); exact K0.out.bx 0 _ _ _ rfl; rfl; rfl; kernel_rfl; rfl; rfl; rfl; rfl; intro y2 H2; have K2 : Hid (Fm w [(w.heap.size, #[.int .u8 0, .int .u8 0, .int .u8 0, .int .u8 0, .int .u8 0], 22)] y2) := K0.out.put 0 _ _ _ _ rfl H2.out)
    | ((with_reducible refine at_bu #[] [] #[.int .u8 0, .int .u8 0, .int .u8 0, .int .u8 0, .int .u8 0] ?_ ?_ ?_ hb.out ?_); kernel_rfl; rfl; rfl))
  first
    | exact ret_row rtDg rfl rfl (K2.out.bx 0 _ _ _ rfl) rfl rfl ⟨rfl, K2.out.low⟩
    | exact ret_row rtDg rfl rfl (K0.out.bx 0 _ _ _ rfl) rfl rfl ⟨rfl, K0.out.low⟩
theorem rdigit_any (w : World) (n : Nat) (hn : n < 256) : Calls Tryd.prog 12 #[.int .u8 (n : Int)] w fun e w' => e = .returned (.agg (dgC n)) ∧ Below w.heap.size w w' := by
  by_cases h : 16 ≤ n
  · exact rdig_big w n h hn
  · have : n = 0 ∨ n = 1 ∨ n = 2 ∨ n = 3 ∨ n = 4 ∨ n = 5 ∨ n = 6 ∨ n = 7 ∨ n = 8 ∨ n = 9 ∨ n = 10 ∨ n = 11 ∨ n = 12 ∨ n = 13 ∨ n = 14 ∨ n = 15 := by omega
    rcases this with rfl | rfl | rfl | rfl | rfl | rfl | rfl | rfl | rfl | rfl | rfl | rfl | rfl | rfl | rfl | rfl
    · exact rdig0 w
    · exact rdig1 w
    · exact rdig2 w
    · exact rdig3 w
    · exact rdig4 w
    · exact rdig5 w
    · exact rdig6 w
    · exact rdig7 w
    · exact rdig8 w
    · exact rdig9 w
    · exact rdig10 w
    · exact rdig11 w
    · exact rdig12 w
    · exact rdig13 w
    · exact rdig14 w
    · exact rdig15 w
end Go.Proofs.YtiplellfpagclaaDoor
