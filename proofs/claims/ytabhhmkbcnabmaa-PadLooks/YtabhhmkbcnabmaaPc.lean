/- The latch behind a cycle, by the program and by the document. -/
import Derived.Test.YtabhhmkbcnabmaaPb
namespace Go.Proofs.Ytabhhmkbcnabmaa
open Go Go.RowKit
set_option linter.unusedVariables false
set_option maxHeartbeats 400000
set_option maxRecDepth 20000

/-- What the processor does to the bus. -/
structure Pd where
  Code : Int
  Addr : Int
  Rd : Bool
  Wr : Bool
  Own : Bool
  Data : Int
  Port : Int
  Pulse : Bool
def pdC (d : Pd) : Array Value := #[.int .u8 d.Code, .int .u16 d.Addr, .bool d.Rd, .bool d.Wr, .bool d.Own, .int .u8 d.Data, .int .u8 d.Port, .bool d.Pulse]
theorem pdC_Rd (d : Pd) : (pdC d)[2]? = some (.bool d.Rd) := rfl
theorem pdC_Port (d : Pd) : (pdC d)[6]? = some (.int .u8 d.Port) := rfl
theorem pdC_one (d : Pd) : (pdC d).all (·.oneCell') = true := by simp [pdC, Value.oneCell']
theorem rtPd : Rt Try.prog 28 8 := ⟨⟨_, Try.underlying28, rfl⟩, by kernel_rfl⟩
theorem zeroVP (w : World) : (zeroValue 23).run Try.prog w = .ok (.agg (padC 0)) w := by kernel_rfl
theorem builtP0 : Try.prog.built 23 [] = some (padC 0) := by kernel_rfl
theorem builtP (x : Int) : Try.prog.built 23 [(0, .int .u8 x)] = some (padC x) := by kernel_rfl
theorem step_out (w : World) (p : Int) (d : Pd) (x : Int) (p0 : 0 ≤ p) (p1 : p ≤ 255) (x0 : 0 ≤ x) (x1 : x ≤ 255) (h1 : d.Port = 2) (h2 : d.Rd = true) : Calls Try.prog 10 #[.agg (padC p), .agg (pdC d), .int .u8 x] w fun e w' => e = .returned (.agg (padC (x % 16))) ∧ Below w.heap.size w w' := by
  have zz := zeroVP
  have hF : Hid (Fm w [(w.heap.size, padC p, 23), (w.heap.size + 1, pdC d, 28), (w.heap.size + 2, padC 0, 23)] (((w.alloc (.cells (padC p) 23)).alloc (.cells (pdC d) 28)).alloc (.cells (padC 0) 23))) := Fm.three w _ _ _ _ _ _
  obtain ⟨po, hp⟩ : ∃ q, d.Port = q := ⟨_, rfl⟩
  obtain ⟨rd, hr⟩ : ∃ q, d.Rd = q := ⟨_, rfl⟩
  replace hp : Hid _ := hp
  replace hr : Hid _ := hr
  have e2 := h1
  rw [hp.out] at e2
  subst e2
  have e3 := h2
  rw [hr.out] at e3
  subst e3
  go_enter Try.func10, Try.ntmps10
  go_wp2_with (first
    | ((with_reducible refine gen_world (((w.alloc (.cells (padC p) 23)).alloc (.cells (pdC d) 28)).alloc (.cells (padC 0) 23)) (Fm w [(w.heap.size, padC p, 23), (w.heap.size + 1, pdC d, 28), (w.heap.size + 2, padC 0, 23)]) hF.out ?_); intro y K; have d0 := (K.out.bx 0 _ _ _ rfl).c 0 _ (padC_0 p); have d2 := (K.out.bx 1 _ _ _ rfl).c 2 _ (pdC_Rd d); rw [hr.out] at d2; have d6 := (K.out.bx 1 _ _ _ rfl).c 6 _ (pdC_Port d); rw [hp.out] at d6)
    | ((with_reducible refine at_bu #[(0, .tmp 15)] [(0, .int .u8 (x % 16))] (padC (x % 16)) ?_ ?_ ?_ (builtP _) ?_); kernel_rfl; rfl; first | kernel_rfl | rfl)
    | ((with_reducible refine at_st rtP (w.heap.size + 2) (padC 0) (padC (x % 16)) ?_ ?_ ?_ ?_ (.tmp 6) (.tmp 16) ?_ ?_ ?_ ?_ ?_); exact K.out.bx 2 _ _ _ rfl; rfl; rfl; exact padC_one _; rfl; rfl; rfl; rfl; intro y1 hw1; have K1 : Hid (Fm w [(w.heap.size, padC p, 23), (w.heap.size + 1, pdC d, 28), (w.heap.size + 2, padC (x % 16), 23)] y1) := K.out.put 2 _ _ _ _ rfl hw1.out))
  refine ret_row rtP rfl rfl (K1.out.bx 2 _ _ _ rfl) rfl rfl ⟨rfl, K1.out.low⟩
theorem step_inpH (w : World) (p : Int) (d : Pd) (x : Int) (p0 : 0 ≤ p) (p1 : p ≤ 255) (x0 : 0 ≤ x) (x1 : x ≤ 255) (h1 : d.Port = 2) (h2 : d.Rd = false) (h3 : 15 < p) : Calls Try.prog 10 #[.agg (padC p), .agg (pdC d), .int .u8 x] w fun e w' => e = .returned (.agg (padC 0)) ∧ Below w.heap.size w w' := by
  have zz := zeroVP
  have hF : Hid (Fm w [(w.heap.size, padC p, 23), (w.heap.size + 1, pdC d, 28), (w.heap.size + 2, padC 0, 23)] (((w.alloc (.cells (padC p) 23)).alloc (.cells (pdC d) 28)).alloc (.cells (padC 0) 23))) := Fm.three w _ _ _ _ _ _
  obtain ⟨po, hp⟩ : ∃ q, d.Port = q := ⟨_, rfl⟩
  obtain ⟨rd, hr⟩ : ∃ q, d.Rd = q := ⟨_, rfl⟩
  replace hp : Hid _ := hp
  replace hr : Hid _ := hr
  have e2 := h1
  rw [hp.out] at e2
  subst e2
  have e3 := h2
  rw [hr.out] at e3
  subst e3
  have q : decide (16 ≤ p) = true := by simp; omega
  clear h3
  go_enter Try.func10, Try.ntmps10
  go_wp2_with (first
    | ((with_reducible refine gen_world (((w.alloc (.cells (padC p) 23)).alloc (.cells (pdC d) 28)).alloc (.cells (padC 0) 23)) (Fm w [(w.heap.size, padC p, 23), (w.heap.size + 1, pdC d, 28), (w.heap.size + 2, padC 0, 23)]) hF.out ?_); intro y K; have d0 := (K.out.bx 0 _ _ _ rfl).c 0 _ (padC_0 p); have d2 := (K.out.bx 1 _ _ _ rfl).c 2 _ (pdC_Rd d); rw [hr.out] at d2; have d6 := (K.out.bx 1 _ _ _ rfl).c 6 _ (pdC_Port d); rw [hp.out] at d6)
    | ((with_reducible refine at_bu #[] [] (padC 0) ?_ ?_ ?_ (builtP0) ?_); kernel_rfl; rfl; first | kernel_rfl | rfl)
    | ((with_reducible refine at_st rtP (w.heap.size + 2) (padC 0) (padC 0) ?_ ?_ ?_ ?_ (.tmp 6) (.tmp 20) ?_ ?_ ?_ ?_ ?_); exact K.out.bx 2 _ _ _ rfl; rfl; rfl; exact padC_one _; rfl; rfl; rfl; rfl; intro y1 hw1; have K1 : Hid (Fm w [(w.heap.size, padC p, 23), (w.heap.size + 1, pdC d, 28), (w.heap.size + 2, padC 0, 23)] y1) := K.out.put 2 _ _ _ _ rfl hw1.out))
  refine ret_row rtP rfl rfl (K1.out.bx 2 _ _ _ rfl) rfl rfl ⟨rfl, K1.out.low⟩
theorem step_inpL (w : World) (p : Int) (d : Pd) (x : Int) (p0 : 0 ≤ p) (p1 : p ≤ 255) (x0 : 0 ≤ x) (x1 : x ≤ 255) (h1 : d.Port = 2) (h2 : d.Rd = false) (h3 : p ≤ 15) : Calls Try.prog 10 #[.agg (padC p), .agg (pdC d), .int .u8 x] w fun e w' => e = .returned (.agg (padC p)) ∧ Below w.heap.size w w' := by
  have zz := zeroVP
  have hF : Hid (Fm w [(w.heap.size, padC p, 23), (w.heap.size + 1, pdC d, 28), (w.heap.size + 2, padC 0, 23)] (((w.alloc (.cells (padC p) 23)).alloc (.cells (pdC d) 28)).alloc (.cells (padC 0) 23))) := Fm.three w _ _ _ _ _ _
  obtain ⟨po, hp⟩ : ∃ q, d.Port = q := ⟨_, rfl⟩
  obtain ⟨rd, hr⟩ : ∃ q, d.Rd = q := ⟨_, rfl⟩
  replace hp : Hid _ := hp
  replace hr : Hid _ := hr
  have e2 := h1
  rw [hp.out] at e2
  subst e2
  have e3 := h2
  rw [hr.out] at e3
  subst e3
  have q : decide (16 ≤ p) = false := by simp; omega
  clear h3
  go_enter Try.func10, Try.ntmps10
  go_wp2_with (first
    | ((with_reducible refine gen_world (((w.alloc (.cells (padC p) 23)).alloc (.cells (pdC d) 28)).alloc (.cells (padC 0) 23)) (Fm w [(w.heap.size, padC p, 23), (w.heap.size + 1, pdC d, 28), (w.heap.size + 2, padC 0, 23)]) hF.out ?_); intro y K; have d0 := (K.out.bx 0 _ _ _ rfl).c 0 _ (padC_0 p); have d2 := (K.out.bx 1 _ _ _ rfl).c 2 _ (pdC_Rd d); rw [hr.out] at d2; have d6 := (K.out.bx 1 _ _ _ rfl).c 6 _ (pdC_Port d); rw [hp.out] at d6)
    | ((with_reducible refine at_load rtP w.heap.size (padC p) ?_ ?_ (.tmp 3) ?_ ?_ ?_ ?_); exact K.out.bx 0 _ _ _ rfl; rfl; kernel_rfl; rfl; rfl)
    | ((with_reducible refine at_st rtP (w.heap.size + 2) (padC 0) (padC p) ?_ ?_ ?_ ?_ (.tmp 6) (.tmp 21) ?_ ?_ ?_ ?_ ?_); exact K.out.bx 2 _ _ _ rfl; rfl; rfl; exact padC_one _; rfl; rfl; rfl; rfl; intro y1 hw1; have K1 : Hid (Fm w [(w.heap.size, padC p, 23), (w.heap.size + 1, pdC d, 28), (w.heap.size + 2, padC p, 23)] y1) := K.out.put 2 _ _ _ _ rfl hw1.out))
  refine ret_row rtP rfl rfl (K1.out.bx 2 _ _ _ rfl) rfl rfl ⟨rfl, K1.out.low⟩
theorem step_elsH (w : World) (p : Int) (d : Pd) (x : Int) (p0 : 0 ≤ p) (p1 : p ≤ 255) (x0 : 0 ≤ x) (x1 : x ≤ 255) (h1 : d.Port ≠ 2) (h3 : 15 < p) : Calls Try.prog 10 #[.agg (padC p), .agg (pdC d), .int .u8 x] w fun e w' => e = .returned (.agg (padC 0)) ∧ Below w.heap.size w w' := by
  have zz := zeroVP
  have hF : Hid (Fm w [(w.heap.size, padC p, 23), (w.heap.size + 1, pdC d, 28), (w.heap.size + 2, padC 0, 23)] (((w.alloc (.cells (padC p) 23)).alloc (.cells (pdC d) 28)).alloc (.cells (padC 0) 23))) := Fm.three w _ _ _ _ _ _
  obtain ⟨po, hp⟩ : ∃ q, d.Port = q := ⟨_, rfl⟩
  obtain ⟨rd, hr⟩ : ∃ q, d.Rd = q := ⟨_, rfl⟩
  replace hp : Hid _ := hp
  replace hr : Hid _ := hr
  have q1 : (po == 2) = false := by rw [hp.out] at h1; simpa using h1
  clear h1
  have q : decide (16 ≤ p) = true := by simp; omega
  clear h3
  go_enter Try.func10, Try.ntmps10
  go_wp2_with (first
    | ((with_reducible refine gen_world (((w.alloc (.cells (padC p) 23)).alloc (.cells (pdC d) 28)).alloc (.cells (padC 0) 23)) (Fm w [(w.heap.size, padC p, 23), (w.heap.size + 1, pdC d, 28), (w.heap.size + 2, padC 0, 23)]) hF.out ?_); intro y K; have d0 := (K.out.bx 0 _ _ _ rfl).c 0 _ (padC_0 p); have d2 := (K.out.bx 1 _ _ _ rfl).c 2 _ (pdC_Rd d); rw [hr.out] at d2; have d6 := (K.out.bx 1 _ _ _ rfl).c 6 _ (pdC_Port d); rw [hp.out] at d6)
    | ((with_reducible refine at_bu #[] [] (padC 0) ?_ ?_ ?_ (builtP0) ?_); kernel_rfl; rfl; first | kernel_rfl | rfl)
    | ((with_reducible refine at_st rtP (w.heap.size + 2) (padC 0) (padC 0) ?_ ?_ ?_ ?_ (.tmp 6) (.tmp 20) ?_ ?_ ?_ ?_ ?_); exact K.out.bx 2 _ _ _ rfl; rfl; rfl; exact padC_one _; rfl; rfl; rfl; rfl; intro y1 hw1; have K1 : Hid (Fm w [(w.heap.size, padC p, 23), (w.heap.size + 1, pdC d, 28), (w.heap.size + 2, padC 0, 23)] y1) := K.out.put 2 _ _ _ _ rfl hw1.out))
  refine ret_row rtP rfl rfl (K1.out.bx 2 _ _ _ rfl) rfl rfl ⟨rfl, K1.out.low⟩
theorem step_elsL (w : World) (p : Int) (d : Pd) (x : Int) (p0 : 0 ≤ p) (p1 : p ≤ 255) (x0 : 0 ≤ x) (x1 : x ≤ 255) (h1 : d.Port ≠ 2) (h3 : p ≤ 15) : Calls Try.prog 10 #[.agg (padC p), .agg (pdC d), .int .u8 x] w fun e w' => e = .returned (.agg (padC p)) ∧ Below w.heap.size w w' := by
  have zz := zeroVP
  have hF : Hid (Fm w [(w.heap.size, padC p, 23), (w.heap.size + 1, pdC d, 28), (w.heap.size + 2, padC 0, 23)] (((w.alloc (.cells (padC p) 23)).alloc (.cells (pdC d) 28)).alloc (.cells (padC 0) 23))) := Fm.three w _ _ _ _ _ _
  obtain ⟨po, hp⟩ : ∃ q, d.Port = q := ⟨_, rfl⟩
  obtain ⟨rd, hr⟩ : ∃ q, d.Rd = q := ⟨_, rfl⟩
  replace hp : Hid _ := hp
  replace hr : Hid _ := hr
  have q1 : (po == 2) = false := by rw [hp.out] at h1; simpa using h1
  clear h1
  have q : decide (16 ≤ p) = false := by simp; omega
  clear h3
  go_enter Try.func10, Try.ntmps10
  go_wp2_with (first
    | ((with_reducible refine gen_world (((w.alloc (.cells (padC p) 23)).alloc (.cells (pdC d) 28)).alloc (.cells (padC 0) 23)) (Fm w [(w.heap.size, padC p, 23), (w.heap.size + 1, pdC d, 28), (w.heap.size + 2, padC 0, 23)]) hF.out ?_); intro y K; have d0 := (K.out.bx 0 _ _ _ rfl).c 0 _ (padC_0 p); have d2 := (K.out.bx 1 _ _ _ rfl).c 2 _ (pdC_Rd d); rw [hr.out] at d2; have d6 := (K.out.bx 1 _ _ _ rfl).c 6 _ (pdC_Port d); rw [hp.out] at d6)
    | ((with_reducible refine at_load rtP w.heap.size (padC p) ?_ ?_ (.tmp 3) ?_ ?_ ?_ ?_); exact K.out.bx 0 _ _ _ rfl; rfl; kernel_rfl; rfl; rfl)
    | ((with_reducible refine at_st rtP (w.heap.size + 2) (padC 0) (padC p) ?_ ?_ ?_ ?_ (.tmp 6) (.tmp 21) ?_ ?_ ?_ ?_ ?_); exact K.out.bx 2 _ _ _ rfl; rfl; rfl; exact padC_one _; rfl; rfl; rfl; rfl; intro y1 hw1; have K1 : Hid (Fm w [(w.heap.size, padC p, 23), (w.heap.size + 1, pdC d, 28), (w.heap.size + 2, padC p, 23)] y1) := K.out.put 2 _ _ _ _ rfl hw1.out))
  refine ret_row rtP rfl rfl (K1.out.bx 2 _ _ _ rfl) rfl rfl ⟨rfl, K1.out.low⟩
theorem step_any (w : World) (p : Int) (d : Pd) (x : Int) (p0 : 0 ≤ p) (p1 : p ≤ 255) (x0 : 0 ≤ x) (x1 : x ≤ 255) : Calls Try.prog 10 #[.agg (padC p), .agg (pdC d), .int .u8 x] w fun e w' => e = .returned (.agg (padC (stepL p d.Port d.Rd x))) ∧ Below w.heap.size w w' := by
  unfold stepL
  by_cases h1 : d.Port = 2
  · cases h2 : d.Rd
    · rw [if_neg (by simp)]
      by_cases h3 : 15 < p
      · rw [if_pos h3]; exact step_inpH w p d x p0 p1 x0 x1 h1 h2 h3
      · rw [if_neg h3]; exact step_inpL w p d x p0 p1 x0 x1 h1 h2 (by omega)
    · rw [if_pos ⟨h1, rfl⟩]; exact step_out w p d x p0 p1 x0 x1 h1 h2
  · rw [if_neg (fun h => h1 h.1)]
    by_cases h3 : 15 < p
    · rw [if_pos h3]; exact step_elsH w p d x p0 p1 x0 x1 h1 h3
    · rw [if_neg h3]; exact step_elsL w p d x p0 p1 x0 x1 h1 (by omega)
theorem rstep_out (w : World) (p : Int) (d : Pd) (x : Int) (p0 : 0 ≤ p) (p1 : p ≤ 255) (x0 : 0 ≤ x) (x1 : x ≤ 255) (h1 : d.Port = 2) (h2 : d.Rd = true) : Calls Try.prog 11 #[.agg (padC p), .agg (pdC d), .int .u8 x] w fun e w' => e = .returned (.agg (padC (x % 16))) ∧ Below w.heap.size w w' := by
  have zz := zeroVP
  have hF : Hid (Fm w [(w.heap.size, padC p, 23), (w.heap.size + 1, pdC d, 28), (w.heap.size + 2, padC 0, 23)] (((w.alloc (.cells (padC p) 23)).alloc (.cells (pdC d) 28)).alloc (.cells (padC 0) 23))) := Fm.three w _ _ _ _ _ _
  obtain ⟨po, hp⟩ : ∃ q, d.Port = q := ⟨_, rfl⟩
  obtain ⟨rd, hr⟩ : ∃ q, d.Rd = q := ⟨_, rfl⟩
  replace hp : Hid _ := hp
  replace hr : Hid _ := hr
  have e2 := h1
  rw [hp.out] at e2
  subst e2
  have e3 := h2
  rw [hr.out] at e3
  subst e3
  go_enter Try.func11, Try.ntmps11
  go_wp2_with (first
    | ((with_reducible refine gen_world (((w.alloc (.cells (padC p) 23)).alloc (.cells (pdC d) 28)).alloc (.cells (padC 0) 23)) (Fm w [(w.heap.size, padC p, 23), (w.heap.size + 1, pdC d, 28), (w.heap.size + 2, padC 0, 23)]) hF.out ?_); intro y K; have d0 := (K.out.bx 0 _ _ _ rfl).c 0 _ (padC_0 p); have d2 := (K.out.bx 1 _ _ _ rfl).c 2 _ (pdC_Rd d); rw [hr.out] at d2; have d6 := (K.out.bx 1 _ _ _ rfl).c 6 _ (pdC_Port d); rw [hp.out] at d6)
    | ((with_reducible refine at_bu #[(0, .tmp 15)] [(0, .int .u8 (x % 16))] (padC (x % 16)) ?_ ?_ ?_ (builtP _) ?_); kernel_rfl; rfl; first | kernel_rfl | rfl)
    | ((with_reducible refine at_st rtP (w.heap.size + 2) (padC 0) (padC (x % 16)) ?_ ?_ ?_ ?_ (.tmp 6) (.tmp 16) ?_ ?_ ?_ ?_ ?_); exact K.out.bx 2 _ _ _ rfl; rfl; rfl; exact padC_one _; rfl; rfl; rfl; rfl; intro y1 hw1; have K1 : Hid (Fm w [(w.heap.size, padC p, 23), (w.heap.size + 1, pdC d, 28), (w.heap.size + 2, padC (x % 16), 23)] y1) := K.out.put 2 _ _ _ _ rfl hw1.out))
  refine ret_row rtP rfl rfl (K1.out.bx 2 _ _ _ rfl) rfl rfl ⟨rfl, K1.out.low⟩
theorem rstep_inpH (w : World) (p : Int) (d : Pd) (x : Int) (p0 : 0 ≤ p) (p1 : p ≤ 255) (x0 : 0 ≤ x) (x1 : x ≤ 255) (h1 : d.Port = 2) (h2 : d.Rd = false) (h3 : 15 < p) : Calls Try.prog 11 #[.agg (padC p), .agg (pdC d), .int .u8 x] w fun e w' => e = .returned (.agg (padC 0)) ∧ Below w.heap.size w w' := by
  have zz := zeroVP
  have hF : Hid (Fm w [(w.heap.size, padC p, 23), (w.heap.size + 1, pdC d, 28), (w.heap.size + 2, padC 0, 23)] (((w.alloc (.cells (padC p) 23)).alloc (.cells (pdC d) 28)).alloc (.cells (padC 0) 23))) := Fm.three w _ _ _ _ _ _
  obtain ⟨po, hp⟩ : ∃ q, d.Port = q := ⟨_, rfl⟩
  obtain ⟨rd, hr⟩ : ∃ q, d.Rd = q := ⟨_, rfl⟩
  replace hp : Hid _ := hp
  replace hr : Hid _ := hr
  have e2 := h1
  rw [hp.out] at e2
  subst e2
  have e3 := h2
  rw [hr.out] at e3
  subst e3
  have q : decide (15 < p) = true := by simp; omega
  clear h3
  go_enter Try.func11, Try.ntmps11
  go_wp2_with (first
    | ((with_reducible refine gen_world (((w.alloc (.cells (padC p) 23)).alloc (.cells (pdC d) 28)).alloc (.cells (padC 0) 23)) (Fm w [(w.heap.size, padC p, 23), (w.heap.size + 1, pdC d, 28), (w.heap.size + 2, padC 0, 23)]) hF.out ?_); intro y K; have d0 := (K.out.bx 0 _ _ _ rfl).c 0 _ (padC_0 p); have d2 := (K.out.bx 1 _ _ _ rfl).c 2 _ (pdC_Rd d); rw [hr.out] at d2; have d6 := (K.out.bx 1 _ _ _ rfl).c 6 _ (pdC_Port d); rw [hp.out] at d6)
    | ((with_reducible refine at_bu #[] [] (padC 0) ?_ ?_ ?_ (builtP0) ?_); kernel_rfl; rfl; first | kernel_rfl | rfl)
    | ((with_reducible refine at_st rtP (w.heap.size + 2) (padC 0) (padC 0) ?_ ?_ ?_ ?_ (.tmp 6) (.tmp 20) ?_ ?_ ?_ ?_ ?_); exact K.out.bx 2 _ _ _ rfl; rfl; rfl; exact padC_one _; rfl; rfl; rfl; rfl; intro y1 hw1; have K1 : Hid (Fm w [(w.heap.size, padC p, 23), (w.heap.size + 1, pdC d, 28), (w.heap.size + 2, padC 0, 23)] y1) := K.out.put 2 _ _ _ _ rfl hw1.out))
  refine ret_row rtP rfl rfl (K1.out.bx 2 _ _ _ rfl) rfl rfl ⟨rfl, K1.out.low⟩
theorem rstep_inpL (w : World) (p : Int) (d : Pd) (x : Int) (p0 : 0 ≤ p) (p1 : p ≤ 255) (x0 : 0 ≤ x) (x1 : x ≤ 255) (h1 : d.Port = 2) (h2 : d.Rd = false) (h3 : p ≤ 15) : Calls Try.prog 11 #[.agg (padC p), .agg (pdC d), .int .u8 x] w fun e w' => e = .returned (.agg (padC p)) ∧ Below w.heap.size w w' := by
  have zz := zeroVP
  have hF : Hid (Fm w [(w.heap.size, padC p, 23), (w.heap.size + 1, pdC d, 28), (w.heap.size + 2, padC 0, 23)] (((w.alloc (.cells (padC p) 23)).alloc (.cells (pdC d) 28)).alloc (.cells (padC 0) 23))) := Fm.three w _ _ _ _ _ _
  obtain ⟨po, hp⟩ : ∃ q, d.Port = q := ⟨_, rfl⟩
  obtain ⟨rd, hr⟩ : ∃ q, d.Rd = q := ⟨_, rfl⟩
  replace hp : Hid _ := hp
  replace hr : Hid _ := hr
  have e2 := h1
  rw [hp.out] at e2
  subst e2
  have e3 := h2
  rw [hr.out] at e3
  subst e3
  have q : decide (15 < p) = false := by simp; omega
  clear h3
  go_enter Try.func11, Try.ntmps11
  go_wp2_with (first
    | ((with_reducible refine gen_world (((w.alloc (.cells (padC p) 23)).alloc (.cells (pdC d) 28)).alloc (.cells (padC 0) 23)) (Fm w [(w.heap.size, padC p, 23), (w.heap.size + 1, pdC d, 28), (w.heap.size + 2, padC 0, 23)]) hF.out ?_); intro y K; have d0 := (K.out.bx 0 _ _ _ rfl).c 0 _ (padC_0 p); have d2 := (K.out.bx 1 _ _ _ rfl).c 2 _ (pdC_Rd d); rw [hr.out] at d2; have d6 := (K.out.bx 1 _ _ _ rfl).c 6 _ (pdC_Port d); rw [hp.out] at d6)
    | ((with_reducible refine at_load rtP w.heap.size (padC p) ?_ ?_ (.tmp 3) ?_ ?_ ?_ ?_); exact K.out.bx 0 _ _ _ rfl; rfl; kernel_rfl; rfl; rfl)
    | ((with_reducible refine at_st rtP (w.heap.size + 2) (padC 0) (padC p) ?_ ?_ ?_ ?_ (.tmp 6) (.tmp 21) ?_ ?_ ?_ ?_ ?_); exact K.out.bx 2 _ _ _ rfl; rfl; rfl; exact padC_one _; rfl; rfl; rfl; rfl; intro y1 hw1; have K1 : Hid (Fm w [(w.heap.size, padC p, 23), (w.heap.size + 1, pdC d, 28), (w.heap.size + 2, padC p, 23)] y1) := K.out.put 2 _ _ _ _ rfl hw1.out))
  refine ret_row rtP rfl rfl (K1.out.bx 2 _ _ _ rfl) rfl rfl ⟨rfl, K1.out.low⟩
theorem rstep_elsH (w : World) (p : Int) (d : Pd) (x : Int) (p0 : 0 ≤ p) (p1 : p ≤ 255) (x0 : 0 ≤ x) (x1 : x ≤ 255) (h1 : d.Port ≠ 2) (h3 : 15 < p) : Calls Try.prog 11 #[.agg (padC p), .agg (pdC d), .int .u8 x] w fun e w' => e = .returned (.agg (padC 0)) ∧ Below w.heap.size w w' := by
  have zz := zeroVP
  have hF : Hid (Fm w [(w.heap.size, padC p, 23), (w.heap.size + 1, pdC d, 28), (w.heap.size + 2, padC 0, 23)] (((w.alloc (.cells (padC p) 23)).alloc (.cells (pdC d) 28)).alloc (.cells (padC 0) 23))) := Fm.three w _ _ _ _ _ _
  obtain ⟨po, hp⟩ : ∃ q, d.Port = q := ⟨_, rfl⟩
  obtain ⟨rd, hr⟩ : ∃ q, d.Rd = q := ⟨_, rfl⟩
  replace hp : Hid _ := hp
  replace hr : Hid _ := hr
  have q1 : (po == 2) = false := by rw [hp.out] at h1; simpa using h1
  clear h1
  have q : decide (15 < p) = true := by simp; omega
  clear h3
  go_enter Try.func11, Try.ntmps11
  go_wp2_with (first
    | ((with_reducible refine gen_world (((w.alloc (.cells (padC p) 23)).alloc (.cells (pdC d) 28)).alloc (.cells (padC 0) 23)) (Fm w [(w.heap.size, padC p, 23), (w.heap.size + 1, pdC d, 28), (w.heap.size + 2, padC 0, 23)]) hF.out ?_); intro y K; have d0 := (K.out.bx 0 _ _ _ rfl).c 0 _ (padC_0 p); have d2 := (K.out.bx 1 _ _ _ rfl).c 2 _ (pdC_Rd d); rw [hr.out] at d2; have d6 := (K.out.bx 1 _ _ _ rfl).c 6 _ (pdC_Port d); rw [hp.out] at d6)
    | ((with_reducible refine at_bu #[] [] (padC 0) ?_ ?_ ?_ (builtP0) ?_); kernel_rfl; rfl; first | kernel_rfl | rfl)
    | ((with_reducible refine at_st rtP (w.heap.size + 2) (padC 0) (padC 0) ?_ ?_ ?_ ?_ (.tmp 6) (.tmp 20) ?_ ?_ ?_ ?_ ?_); exact K.out.bx 2 _ _ _ rfl; rfl; rfl; exact padC_one _; rfl; rfl; rfl; rfl; intro y1 hw1; have K1 : Hid (Fm w [(w.heap.size, padC p, 23), (w.heap.size + 1, pdC d, 28), (w.heap.size + 2, padC 0, 23)] y1) := K.out.put 2 _ _ _ _ rfl hw1.out))
  refine ret_row rtP rfl rfl (K1.out.bx 2 _ _ _ rfl) rfl rfl ⟨rfl, K1.out.low⟩
theorem rstep_elsL (w : World) (p : Int) (d : Pd) (x : Int) (p0 : 0 ≤ p) (p1 : p ≤ 255) (x0 : 0 ≤ x) (x1 : x ≤ 255) (h1 : d.Port ≠ 2) (h3 : p ≤ 15) : Calls Try.prog 11 #[.agg (padC p), .agg (pdC d), .int .u8 x] w fun e w' => e = .returned (.agg (padC p)) ∧ Below w.heap.size w w' := by
  have zz := zeroVP
  have hF : Hid (Fm w [(w.heap.size, padC p, 23), (w.heap.size + 1, pdC d, 28), (w.heap.size + 2, padC 0, 23)] (((w.alloc (.cells (padC p) 23)).alloc (.cells (pdC d) 28)).alloc (.cells (padC 0) 23))) := Fm.three w _ _ _ _ _ _
  obtain ⟨po, hp⟩ : ∃ q, d.Port = q := ⟨_, rfl⟩
  obtain ⟨rd, hr⟩ : ∃ q, d.Rd = q := ⟨_, rfl⟩
  replace hp : Hid _ := hp
  replace hr : Hid _ := hr
  have q1 : (po == 2) = false := by rw [hp.out] at h1; simpa using h1
  clear h1
  have q : decide (15 < p) = false := by simp; omega
  clear h3
  go_enter Try.func11, Try.ntmps11
  go_wp2_with (first
    | ((with_reducible refine gen_world (((w.alloc (.cells (padC p) 23)).alloc (.cells (pdC d) 28)).alloc (.cells (padC 0) 23)) (Fm w [(w.heap.size, padC p, 23), (w.heap.size + 1, pdC d, 28), (w.heap.size + 2, padC 0, 23)]) hF.out ?_); intro y K; have d0 := (K.out.bx 0 _ _ _ rfl).c 0 _ (padC_0 p); have d2 := (K.out.bx 1 _ _ _ rfl).c 2 _ (pdC_Rd d); rw [hr.out] at d2; have d6 := (K.out.bx 1 _ _ _ rfl).c 6 _ (pdC_Port d); rw [hp.out] at d6)
    | ((with_reducible refine at_load rtP w.heap.size (padC p) ?_ ?_ (.tmp 3) ?_ ?_ ?_ ?_); exact K.out.bx 0 _ _ _ rfl; rfl; kernel_rfl; rfl; rfl)
    | ((with_reducible refine at_st rtP (w.heap.size + 2) (padC 0) (padC p) ?_ ?_ ?_ ?_ (.tmp 6) (.tmp 21) ?_ ?_ ?_ ?_ ?_); exact K.out.bx 2 _ _ _ rfl; rfl; rfl; exact padC_one _; rfl; rfl; rfl; rfl; intro y1 hw1; have K1 : Hid (Fm w [(w.heap.size, padC p, 23), (w.heap.size + 1, pdC d, 28), (w.heap.size + 2, padC p, 23)] y1) := K.out.put 2 _ _ _ _ rfl hw1.out))
  refine ret_row rtP rfl rfl (K1.out.bx 2 _ _ _ rfl) rfl rfl ⟨rfl, K1.out.low⟩
theorem rstep_any (w : World) (p : Int) (d : Pd) (x : Int) (p0 : 0 ≤ p) (p1 : p ≤ 255) (x0 : 0 ≤ x) (x1 : x ≤ 255) : Calls Try.prog 11 #[.agg (padC p), .agg (pdC d), .int .u8 x] w fun e w' => e = .returned (.agg (padC (stepL p d.Port d.Rd x))) ∧ Below w.heap.size w w' := by
  unfold stepL
  by_cases h1 : d.Port = 2
  · cases h2 : d.Rd
    · rw [if_neg (by simp)]
      by_cases h3 : 15 < p
      · rw [if_pos h3]; exact rstep_inpH w p d x p0 p1 x0 x1 h1 h2 h3
      · rw [if_neg h3]; exact rstep_inpL w p d x p0 p1 x0 x1 h1 h2 (by omega)
    · rw [if_pos ⟨h1, rfl⟩]; exact rstep_out w p d x p0 p1 x0 x1 h1 h2
  · rw [if_neg (fun h => h1 h.1)]
    by_cases h3 : 15 < p
    · rw [if_pos h3]; exact rstep_elsH w p d x p0 p1 x0 x1 h1 h3
    · rw [if_neg h3]; exact rstep_elsL w p d x p0 p1 x0 x1 h1 (by omega)
end Go.Proofs.Ytabhhmkbcnabmaa
