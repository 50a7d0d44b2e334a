/- The chip's questions, by the program. -/
import Derived.Test.YtehnhjdjjalifaaGreatDoorRb
namespace Go.Proofs.YtehnhjdjjalifaaGreatDoor
open Go Go.RowKit
set_option linter.unusedVariables false
set_option maxHeartbeats 1000000
set_option maxRecDepth 20000

theorem in0 (w : World) (tb : Tl w) (l : Int) : Calls Tryz.prog 115 #[.int .u8 0, .int .i64 l] w fun e w' => e = .returned (.bool (shownB l)) ∧ w' = w := by have h := in_walk w tb 0 l; rw [inB0] at h; exact h
theorem in1 (w : World) (tb : Tl w) (l : Int) : Calls Tryz.prog 115 #[.int .u8 1, .int .i64 l] w fun e w' => e = .returned (.bool (askB l)) ∧ w' = w := by have h := in_walk w tb 1 l; rw [inB1] at h; exact h
theorem in2 (w : World) (tb : Tl w) (l : Int) : Calls Tryz.prog 115 #[.int .u8 2, .int .i64 l] w fun e w' => e = .returned (.bool (flagB l)) ∧ w' = w := by have h := in_walk w tb 2 l; rw [inB2] at h; exact h
theorem most_any (w : World) (tb : Tl w) (r : Ra) (h0 : 0 ≤ r.C) (h1 : r.C ≤ 13) : Calls Tryz.prog 87 #[.agg (raC r)] w fun e w' => e = .returned (.int .i64 (mostM r)) ∧ Below w.heap.size w w' := by
  have tb' : Hid (Tl w) := tb
  have hF : Hid (Fm w [(w.heap.size, raC r, 28)] (w.alloc (.cells (raC r) 28))) := Fm.one w _ _
  have hI := fun v t => in0 v t r.L
  have hM : Hid (mostM r = if shownB r.L then (if r.C ≤ 2 then 0 else if 10 ≤ r.C then 8 else r.C - 2) else 0) := (rfl : mostM r = _)
  obtain ⟨M, hMe⟩ : ∃ M, mostM r = M := ⟨_, rfl⟩
  obtain ⟨s, hs⟩ : ∃ s, shownB r.L = s := ⟨_, rfl⟩
  rw [hMe, hs] at hM
  rw [hMe]
  rw [hs] at hI
  obtain ⟨c, hc⟩ : ∃ c, r.C = c := ⟨_, rfl⟩
  rw [hc] at h0 h1 hM
  replace hc : Hid _ := hc
  clear hMe hs tb
  cases s
  · go_enter Tryz.func87, Tryz.ntmps87
    go_wp2_with (first
      | (refine gen_world (w.alloc (.cells (raC r) 28)) (Fm w [(w.heap.size, raC r, 28)]) hF.out ?_; intro y K; have d0 := (K.out.bx 0 _ _ _ rfl).c 0 _ (raC_L r); have d1 := (K.out.bx 0 _ _ _ rfl).c 1 _ (raC_C r))
      | (go_at_call 115; refine (hI _ (tb'.out.below K.out.low)).mono ?_; rintro e v1 ⟨rfl, rfl⟩))
    go_ret
    exact ⟨by rw [hM.out]; first | rfl | simp, K.out.low⟩
  · go_enter Tryz.func87, Tryz.ntmps87
    go_wp2_with (first
      | (refine gen_world (w.alloc (.cells (raC r) 28)) (Fm w [(w.heap.size, raC r, 28)]) hF.out ?_; intro y K; have d0 := (K.out.bx 0 _ _ _ rfl).c 0 _ (raC_L r); have d1 := (K.out.bx 0 _ _ _ rfl).c 1 _ (raC_C r); rw [hc.out] at d1)
      | (go_at_call 115; refine (hI _ (tb'.out.below K.out.low)).mono ?_; rintro e v1 ⟨rfl, rfl⟩))
    all_goals
      rename_i hh
      go_ret
      refine ⟨?_, K.out.low⟩
      have hm := hM.out
      rw [if_pos trivial] at hm
      simp
      rw [hm]
      split at hh <;> (repeat' split) <;> omega
end Go.Proofs.YtehnhjdjjalifaaGreatDoor
