/- The document's own: Load, what it refuses for its sum. -/
import Derived.Test.YtehnhjdjjalifaaDoorX9
namespace Go.Proofs.YtehnhjdjjalifaaDoor
open Go Go.RowKit
set_option linter.unusedVariables false
set_option maxHeartbeats 8000000
set_option maxRecDepth 20000

theorem form_parts {l : List UInt8} (h : formB l = true) : 63 ≤ l.length ∧ l.take 4 = [86, 83, 80, 49] ∧ l.length = 583 + ramN l ∧ ∀ i, i < 5 → (l.getD (flN i) 0).toNat ≤ 1 := by
  unfold formB at h
  simp only [Bool.and_eq_true, Nat.ble_eq, beq_iff_eq, List.all_eq_true] at h
  obtain ⟨h1, h2, h3, h4⟩ := h
  refine ⟨h1, h2, h3, fun i hi => ?_⟩
  have : i = 0 ∨ i = 1 ∨ i = 2 ∨ i = 3 ∨ i = 4 := by omega
  rcases this with rfl | rfl | rfl | rfl | rfl
  · exact h4 37 (by simp)
  · exact h4 41 (by simp)
  · exact h4 42 (by simp)
  · exact h4 49 (by simp)
  · exact h4 52 (by simp)
theorem slLow (g o n cap h : Nat) (hc : h ≤ cap) (v : World) : (Instr.sliceAt 32 (.slice (some ⟨g, o, none⟩) n cap) none (some (.int .i64 (h : Int))) none).run Tryd.prog v = .ok (.slice (some ⟨g, o, none⟩) h cap) v := by
  have hu : Tryd.prog.underlying 32 = some (.slice (Tryd.prog.elem 32)) := by kernel_rfl
  rw [run_sliceAt_slice v _ _ _ _ _ hu, run_slice_h v _ _ _ _ hu .i64 (h : Int) (by omega) (by omega)]
  have hz : ∀ v, (sizeOf (Tryd.prog.elem 32)).run Tryd.prog v = .ok 1 v := fun v => by kernel_rfl
  rw [hz]
  simp [Result.andThen_ok, sliced, Addr.add_lit]
end Go.Proofs.YtehnhjdjjalifaaDoor
