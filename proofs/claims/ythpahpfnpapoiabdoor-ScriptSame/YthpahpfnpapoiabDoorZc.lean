/- How long what Cut and Normal answer is. -/
import Derived.Test.YthpahpfnpapoiabDoorVc1
import Derived.Test.YthpahpfnpapoiabDoorVc2
namespace Go.Proofs.YthpahpfnpapoiabDoor
open Go Go.RowKit
set_option linter.unusedVariables false
set_option maxHeartbeats 1000000
set_option maxRecDepth 20000

theorem cut_len (l : List Sn) : ∀ n : Int, (cutA l n).length ≤ l.length ∧ (cutB l n).length ≤ l.length := by
  induction l with
  | nil => intro n; simp [cutA, cutB]
  | cons s l ih =>
    intro n
    have h := ih (n - min n s.c)
    rw [cutA_step, cutB_step, List.length_append, List.length_append, List.length_cons]
    constructor
    · split <;> simp <;> omega
    · split <;> simp <;> omega
theorem out_len (l : List Sn) (n : Int) : (outA l n).length ≤ 4096 ∧ (outB l n).length ≤ 4096 := by
  unfold outA outB
  by_cases h : cutE l n = 0
  · rw [if_pos h, if_pos h]
    have hc : checkS l = 0 := by
      unfold cutE at h
      by_cases hc : checkS l = 0
      · exact hc
      · rw [if_pos hc] at h; exact absurd h hc
    have := (check_ok hc).1
    have := cut_len l n
    omega
  · rw [if_neg h, if_neg h]
    simp
theorem norm_len (l : List Sn) : (normS l).length ≤ 4096 := by
  unfold normS
  by_cases h : checkS l = 0
  · rw [if_pos h]
    obtain ⟨k1, k2, k3⟩ := check_ok h
    have := (nrm_len 1048576 (by decide) l k2).2
    omega
  · rw [if_neg h]
    simp
end Go.Proofs.YthpahpfnpapoiabDoor
