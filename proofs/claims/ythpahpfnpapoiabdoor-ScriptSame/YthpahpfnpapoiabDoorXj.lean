/- As few spans as may be, by the document. -/
import Derived.Test.YthpahpfnpapoiabDoorXh
namespace Go.Proofs.YthpahpfnpapoiabDoor
open Go Go.RowKit
set_option linter.unusedVariables false
set_option maxHeartbeats 1000000
set_option maxRecDepth 20000

theorem emitN_fuel (M : Nat) (hM : 0 < M) (a : At) : ∀ f g n, n ≤ f → n ≤ g → emitN M a f n = emitN M a g n := by
  intro f
  induction f with
  | zero =>
    intro g n hf hg
    have : n = 0 := by omega
    subst this
    cases g <;> simp [emitN]
  | succ f ih =>
    intro g n hf hg
    cases g with
    | zero =>
      have : n = 0 := by omega
      subst this
      simp [emitN]
    | succ g =>
      unfold emitN
      split
      · rfl
      · rw [ih g (n - min n M) (by omega) (by omega)]
theorem emit_step (M : Nat) (hM : 0 < M) (a : At) (n : Nat) (hn : 0 < n) : emit M a n = ⟨(min n M : Nat), a⟩ :: emit M a (n - min n M) := by
  unfold emit
  obtain ⟨m, rfl⟩ : ∃ m, n = m + 1 := ⟨n - 1, by omega⟩
  rw [show emitN M a (m + 1) (m + 1) = ⟨(min (m + 1) M : Nat), a⟩ :: emitN M a m (m + 1 - min (m + 1) M) by
    conv => lhs; unfold emitN
    rw [if_neg (by omega)]]
  congr 1
  exact emitN_fuel M hM a _ _ _ (by omega) (Nat.le_refl _)
theorem nrm_zero (M : Nat) (c : Int) (a : At) (l : List Sn) : nrm M none (⟨c, a⟩ :: l) = nrm M (some (a, 0)) (⟨c, a⟩ :: l) := by
  simp only [nrm]
  rw [if_pos (atB_self a), Nat.zero_add]
def normS (l : List Sn) : List Sn := if checkS l = 0 then nrm 1048576 none l else []
end Go.Proofs.YthpahpfnpapoiabDoor
