/- Whether a wave is a bit: the program's. -/
import Derived.Test.YtdfjfacilbahkabDoorUb
namespace Go.Proofs.YtdfjfacilbahkabDoor
open Go Go.RowKit
set_option linter.unusedVariables false
set_option maxHeartbeats 1000000
set_option maxRecDepth 20000

theorem isBit_any (w : World) (p : Int × Int) : Calls Tryd.prog 23 #[.agg (c2 p).toArray] w fun e w' => e = .returned (.bool (!decide (bitW p < 0))) ∧ Below w.heap.size w w' := by
  have hF : Hid (Fm w [(w.heap.size, (c2 p).toArray, 30)] (w.alloc (.cells (c2 p).toArray 30))) := Fm.one w _ _
  have h1 : Hid ((c2 p).toArray[0]? = some (.int .i64 p.1)) := rfl
  have h2 : Hid ((c2 p).toArray[1]? = some (.int .i64 p.2)) := rfl
  have hbw : Hid (bitW p = if p.1 < 1 ∨ p.2 < 1 ∨ 800 < p.1 ∨ 800 < p.2 then -1 else if p.1 + p.2 < 40 ∨ 800 < p.1 + p.2 then -1 else if p.1 + p.2 ≤ 195 then 0 else 1) := rfl
  obtain ⟨bw, eb⟩ : ∃ x, bitW p = x := ⟨_, rfl⟩
  rw [eb] at hbw ⊢
  obtain ⟨h, eh⟩ : ∃ x, p.1 = x := ⟨_, rfl⟩
  obtain ⟨l, el⟩ : ∃ x, p.2 = x := ⟨_, rfl⟩
  rw [eh, el] at hbw
  rw [eh] at h1
  rw [el] at h2
  obtain ⟨C, eC⟩ : ∃ x, (c2 p).toArray = x := ⟨_, rfl⟩
  rw [eC] at hF h1 h2 ⊢
  obtain ⟨R, hR⟩ : ∃ x, (!decide (bw < 0)) = x := ⟨_, rfl⟩
  rw [hR]
  clear eC eh el eb
  have key : Hid (R = (decide (1 ≤ h) && decide (1 ≤ l) && decide (h ≤ 800) && decide (l ≤ 800) && decide (40 ≤ h + l) && decide (h + l ≤ 800))) := by
    show _ = _
    rw [← hR, hbw.out]
    by_cases a1 : h < 1 ∨ l < 1 ∨ 800 < h ∨ 800 < l
    · rw [if_pos a1]
      simp
      omega
    · rw [if_neg a1]
      by_cases a2 : h + l < 40 ∨ 800 < h + l
      · rw [if_pos a2]
        simp
        omega
      · rw [if_neg a2]
        split <;> (simp; omega)
  clear hR hbw bw
  obtain ⟨m, em⟩ : ∃ x, (if l < h then l else h) = x := ⟨_, rfl⟩
  obtain ⟨M, eM⟩ : ∃ x, (if h < l then l else h) = x := ⟨_, rfl⟩
  have mm : (m = l ∨ m = h) ∧ m ≤ l ∧ m ≤ h := by rw [← em]; split <;> omega
  have MM : (M = l ∨ M = h) ∧ l ≤ M ∧ h ≤ M := by rw [← eM]; split <;> omega
  by_cases a1 : m < 1
  · have q1 : decide (m < 1) = true := by simpa using a1
    obtain rfl : R = false := by rw [key.out]; simp; omega
    clear key a1 mm MM
    go_enter Tryd.func23, Tryd.ntmps23
    go_wp2_with ((with_reducible refine gen_world (w.alloc (.cells C 30)) (Fm w [(w.heap.size, C, 30)]) hF.out ?_); intro y K; have d0 := (K.out.bx 0 _ _ _ rfl).c 0 _ h1.out; have d1 := (K.out.bx 0 _ _ _ rfl).c 1 _ h2.out)
    go_ret
    exact ⟨by first | rfl | simp, K.out.low⟩
  have q1 : decide (m < 1) = false := by simpa using a1
  by_cases a2 : 800 < M
  · have q2 : decide (800 < M) = true := by simpa using a2
    obtain rfl : R = false := by rw [key.out]; simp; omega
    clear key a1 a2 mm MM
    go_enter Tryd.func23, Tryd.ntmps23
    go_wp2_with ((with_reducible refine gen_world (w.alloc (.cells C 30)) (Fm w [(w.heap.size, C, 30)]) hF.out ?_); intro y K; have d0 := (K.out.bx 0 _ _ _ rfl).c 0 _ h1.out; have d1 := (K.out.bx 0 _ _ _ rfl).c 1 _ h2.out)
    go_ret
    exact ⟨by first | rfl | simp, K.out.low⟩
  have q2 : decide (800 < M) = false := by simpa using a2
  have l0 : 1 ≤ l := by omega
  have l1 : l ≤ 800 := by omega
  have g0 : 1 ≤ h := by omega
  have g1 : h ≤ 800 := by omega
  by_cases a3 : 40 ≤ h + l
  · have q3 : decide (40 ≤ h + l) = true := by simpa using a3
    obtain ⟨b, eb⟩ : ∃ b, decide (h + l ≤ 800) = b := ⟨_, rfl⟩
    obtain rfl : R = b := by rw [key.out, ← eb]; simp; omega
    clear key a1 a2 a3 mm MM
    go_enter Tryd.func23, Tryd.ntmps23
    go_wp2_with ((with_reducible refine gen_world (w.alloc (.cells C 30)) (Fm w [(w.heap.size, C, 30)]) hF.out ?_); intro y K; have d0 := (K.out.bx 0 _ _ _ rfl).c 0 _ h1.out; have d1 := (K.out.bx 0 _ _ _ rfl).c 1 _ h2.out)
    go_ret
    exact ⟨by first | rfl | simp, K.out.low⟩
  have q3 : decide (40 ≤ h + l) = false := by simpa using a3
  obtain rfl : R = false := by rw [key.out]; simp; omega
  clear key a1 a2 a3 mm MM
  go_enter Tryd.func23, Tryd.ntmps23
  go_wp2_with ((with_reducible refine gen_world (w.alloc (.cells C 30)) (Fm w [(w.heap.size, C, 30)]) hF.out ?_); intro y K; have d0 := (K.out.bx 0 _ _ _ rfl).c 0 _ h1.out; have d1 := (K.out.bx 0 _ _ _ rfl).c 1 _ h2.out)
  go_ret
  exact ⟨by first | rfl | simp, K.out.low⟩
end Go.Proofs.YtdfjfacilbahkabDoor
